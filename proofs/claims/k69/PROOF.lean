import PyProof.Rows.All
import Wide.All
import OpenK.AllK
import Wide.FinOn
import Lean
import PyProof.EqAt
import PyProof.EqKinds
import PyProof.TupleCall
import PyProof.NeKinds
import PyProof.EnumMake
import PyProof.EnumStmt
import PyProof.LayNew
import KE.KDictLaws
import KE.KDictSum
import KE.LcSums
import PyProof.Rows.SumAny
import PyProof.Rows.SortWalk
import PyProof.DictWalks
import PyProof.Rows.SortRev
import KE.KRevIter
import KE.KIntText
import PyProof.CallStr
import PyProof.StrCalls2
import PyProof.Rows.StrJoin2
import PyProof.StrWalks
import PyProof.Rows.Range3
import PyProof.Rows.MatchSeqLen
import PyProof.Rows.SetFrom
import PyProof.SetRoads
import PyProof.TupleKey
import PyProof.IsRules
import PyProof.Rows.SortShell
import PyProof.Rows.SortRuns
import PyProof.DictFindH
import PySem.Challenge.RW_frameland_k69_plain_sheets
set_option Elab.async false
set_option linter.all false
set_option genSizeOf false
set_option bootstrap.genMatcherCode false
set_option maxRecDepth 100000
set_option tactic.hygienic false
set_option compiler.extract_closed false
theorem ex1 {t0:Type} {p:t0->Prop} {G:Prop} (h:∃a,p a) (k:∀a,p a->G):G:=h.elim k
theorem ex2 {t0 t1:Type} {p:t0->t1->Prop} {G:Prop} (h:∃a b,p a b) (k:∀a b,p a b->G):G:=h.elim fun a h=>ex1 h (k a)
theorem ex3 {t0 t1 t2:Type} {p:t0->t1->t2->Prop} {G:Prop} (h:∃a b c,p a b c) (k:∀a b c,p a b c->G):G:=h.elim fun a h=>ex2 h (k a)
theorem ex4 {t0 t1 t2 t3:Type} {p:t0->t1->t2->t3->Prop} {G:Prop} (h:∃a b c d,p a b c d) (k:∀a b c d,p a b c d->G):G:=h.elim fun a h=>ex3 h (k a)
theorem ex5 {t0 t1 t2 t3 t4:Type} {p:t0->t1->t2->t3->t4->Prop} {G:Prop} (h:∃a b c d e,p a b c d e) (k:∀a b c d e,p a b c d e->G):G:=h.elim fun a h=>ex4 h (k a)
theorem ex6 {t0 t1 t2 t3 t4 t5:Type} {p:t0->t1->t2->t3->t4->t5->Prop} {G:Prop} (h:∃a b c d e f,p a b c d e f) (k:∀a b c d e f,p a b c d e f->G):G:=h.elim fun a h=>ex5 h (k a)
theorem ex7 {t0 t1 t2 t3 t4 t5 t6:Type} {p:t0->t1->t2->t3->t4->t5->t6->Prop} {G:Prop} (h:∃a b c d e f g,p a b c d e f g) (k:∀a b c d e f g,p a b c d e f g->G):G:=h.elim fun a h=>ex6 h (k a)
theorem ex8 {t0 t1 t2 t3 t4 t5 t6 t7:Type} {p:t0->t1->t2->t3->t4->t5->t6->t7->Prop} {G:Prop} (h:∃a b c d e f g h,p a b c d e f g h) (k:∀a b c d e f g h,p a b c d e f g h->G):G:=h.elim fun a h=>ex7 h (k a)
theorem ex9 {t0 t1 t2 t3 t4 t5 t6 t7 t8:Type} {p:t0->t1->t2->t3->t4->t5->t6->t7->t8->Prop} {G:Prop} (h:∃a b c d e f g h i,p a b c d e f g h i) (k:∀a b c d e f g h i,p a b c d e f g h i->G):G:=h.elim fun a h=>ex8 h (k a)
theorem ex10 {t0 t1 t2 t3 t4 t5 t6 t7 t8 t9:Type} {p:t0->t1->t2->t3->t4->t5->t6->t7->t8->t9->Prop} {G:Prop} (h:∃a b c d e f g h i j,p a b c d e f g h i j) (k:∀a b c d e f g h i j,p a b c d e f g h i j->G):G:=h.elim fun a h=>ex9 h (k a)
theorem ex11 {t0 t1 t2 t3 t4 t5 t6 t7 t8 t9 t10:Type} {p:t0->t1->t2->t3->t4->t5->t6->t7->t8->t9->t10->Prop} {G:Prop} (h:∃a b c d e f g h i j k,p a b c d e f g h i j k) (k:∀a b c d e f g h i j k,p a b c d e f g h i j k->G):G:=h.elim fun a h=>ex10 h (k a)
theorem ex12 {t0 t1 t2 t3 t4 t5 t6 t7 t8 t9 t10 t11:Type} {p:t0->t1->t2->t3->t4->t5->t6->t7->t8->t9->t10->t11->Prop} {G:Prop} (h:∃a b c d e f g h i j k l,p a b c d e f g h i j k l) (k:∀a b c d e f g h i j k l,p a b c d e f g h i j k l->G):G:=h.elim fun a h=>ex11 h (k a)
theorem ex13 {t0 t1 t2 t3 t4 t5 t6 t7 t8 t9 t10 t11 t12:Type} {p:t0->t1->t2->t3->t4->t5->t6->t7->t8->t9->t10->t11->t12->Prop} {G:Prop} (h:∃a b c d e f g h i j k l m,p a b c d e f g h i j k l m) (k:∀a b c d e f g h i j k l m,p a b c d e f g h i j k l m->G):G:=h.elim fun a h=>ex12 h (k a)
theorem ex14 {t0 t1 t2 t3 t4 t5 t6 t7 t8 t9 t10 t11 t12 t13:Type} {p:t0->t1->t2->t3->t4->t5->t6->t7->t8->t9->t10->t11->t12->t13->Prop} {G:Prop} (h:∃a b c d e f g h i j k l m n,p a b c d e f g h i j k l m n) (k:∀a b c d e f g h i j k l m n,p a b c d e f g h i j k l m n->G):G:=h.elim fun a h=>ex13 h (k a)
theorem ex15 {t0 t1 t2 t3 t4 t5 t6 t7 t8 t9 t10 t11 t12 t13 t14:Type} {p:t0->t1->t2->t3->t4->t5->t6->t7->t8->t9->t10->t11->t12->t13->t14->Prop} {G:Prop} (h:∃a b c d e f g h i j k l m n o,p a b c d e f g h i j k l m n o) (k:∀a b c d e f g h i j k l m n o,p a b c d e f g h i j k l m n o->G):G:=h.elim fun a h=>ex14 h (k a)
theorem ad2 {A0 A1 G:Prop} (h:A0/\A1) (k:A0->A1->G):G:=k h.1 h.2
theorem ad3 {A0 A1 A2 G:Prop} (h:A0/\A1/\A2) (k:A0->A1->A2->G):G:=ad2 h.2 (k h.1)
theorem ad4 {A0 A1 A2 A3 G:Prop} (h:A0/\A1/\A2/\A3) (k:A0->A1->A2->A3->G):G:=ad3 h.2 (k h.1)
theorem ad5 {A0 A1 A2 A3 A4 G:Prop} (h:A0/\A1/\A2/\A3/\A4) (k:A0->A1->A2->A3->A4->G):G:=ad4 h.2 (k h.1)
theorem ad6 {A0 A1 A2 A3 A4 A5 G:Prop} (h:A0/\A1/\A2/\A3/\A4/\A5) (k:A0->A1->A2->A3->A4->A5->G):G:=ad5 h.2 (k h.1)
theorem ad7 {A0 A1 A2 A3 A4 A5 A6 G:Prop} (h:A0/\A1/\A2/\A3/\A4/\A5/\A6) (k:A0->A1->A2->A3->A4->A5->A6->G):G:=ad6 h.2 (k h.1)
theorem ad8 {A0 A1 A2 A3 A4 A5 A6 A7 G:Prop} (h:A0/\A1/\A2/\A3/\A4/\A5/\A6/\A7) (k:A0->A1->A2->A3->A4->A5->A6->A7->G):G:=ad7 h.2 (k h.1)
theorem ad9 {A0 A1 A2 A3 A4 A5 A6 A7 A8 G:Prop} (h:A0/\A1/\A2/\A3/\A4/\A5/\A6/\A7/\A8) (k:A0->A1->A2->A3->A4->A5->A6->A7->A8->G):G:=ad8 h.2 (k h.1)
theorem ad10 {A0 A1 A2 A3 A4 A5 A6 A7 A8 A9 G:Prop} (h:A0/\A1/\A2/\A3/\A4/\A5/\A6/\A7/\A8/\A9) (k:A0->A1->A2->A3->A4->A5->A6->A7->A8->A9->G):G:=ad9 h.2 (k h.1)
theorem ad11 {A0 A1 A2 A3 A4 A5 A6 A7 A8 A9 A10 G:Prop} (h:A0/\A1/\A2/\A3/\A4/\A5/\A6/\A7/\A8/\A9/\A10) (k:A0->A1->A2->A3->A4->A5->A6->A7->A8->A9->A10->G):G:=ad10 h.2 (k h.1)
theorem ad12 {A0 A1 A2 A3 A4 A5 A6 A7 A8 A9 A10 A11 G:Prop} (h:A0/\A1/\A2/\A3/\A4/\A5/\A6/\A7/\A8/\A9/\A10/\A11) (k:A0->A1->A2->A3->A4->A5->A6->A7->A8->A9->A10->A11->G):G:=ad11 h.2 (k h.1)
theorem ad13 {A0 A1 A2 A3 A4 A5 A6 A7 A8 A9 A10 A11 A12 G:Prop} (h:A0/\A1/\A2/\A3/\A4/\A5/\A6/\A7/\A8/\A9/\A10/\A11/\A12) (k:A0->A1->A2->A3->A4->A5->A6->A7->A8->A9->A10->A11->A12->G):G:=ad12 h.2 (k h.1)
theorem ad14 {A0 A1 A2 A3 A4 A5 A6 A7 A8 A9 A10 A11 A12 A13 G:Prop} (h:A0/\A1/\A2/\A3/\A4/\A5/\A6/\A7/\A8/\A9/\A10/\A11/\A12/\A13) (k:A0->A1->A2->A3->A4->A5->A6->A7->A8->A9->A10->A11->A12->A13->G):G:=ad13 h.2 (k h.1)
theorem ad15 {A0 A1 A2 A3 A4 A5 A6 A7 A8 A9 A10 A11 A12 A13 A14 G:Prop} (h:A0/\A1/\A2/\A3/\A4/\A5/\A6/\A7/\A8/\A9/\A10/\A11/\A12/\A13/\A14) (k:A0->A1->A2->A3->A4->A5->A6->A7->A8->A9->A10->A11->A12->A13->A14->G):G:=ad14 h.2 (k h.1)
theorem ad16 {A0 A1 A2 A3 A4 A5 A6 A7 A8 A9 A10 A11 A12 A13 A14 A15 G:Prop} (h:A0/\A1/\A2/\A3/\A4/\A5/\A6/\A7/\A8/\A9/\A10/\A11/\A12/\A13/\A14/\A15) (k:A0->A1->A2->A3->A4->A5->A6->A7->A8->A9->A10->A11->A12->A13->A14->A15->G):G:=ad15 h.2 (k h.1)
open Lean in
def obC (s:Syntax):Option (Array Syntax):=
 if s.isOfKind `Lean.Parser.Tactic.rcasesPat.tuple then some s[1].getSepArgs else none
open Lean in
def obOne (s:Syntax):Option Syntax:=
 if s.isOfKind `Lean.Parser.Tactic.rcasesPatLo then
  if s[1].getNumArgs==0&&s[0][0].getSepArgs.size==1 then some s[0][0].getSepArgs[0]! else none
 else if s.isOfKind `Lean.Parser.Tactic.rcasesPatMed then
  if s[0].getSepArgs.size==1 then some s[0].getSepArgs[0]! else none
 else none
open Lean in
def obId (s:Syntax):Option Ident:=
 match obOne s with
 |some q=>if q.isOfKind `Lean.Parser.Tactic.rcasesPat.one&&q[0].isIdent&&q[0].getId != `rfl then some ⟨q[0]⟩
   else if q.isOfKind `Lean.Parser.Tactic.rcasesPat.ignore then some (mkIdent `_h) else none
 |none=>none
open Lean in
def obGo (cs:Array Syntax) (e:Term) (first:Bool):MacroM (TSyntax `tactic):=do
 let lo:Array (TSyntax `Lean.Parser.Tactic.rcasesPatLo):=cs.map fun x=>⟨x⟩
 let whole<-`(tactic|rcases $e:term with ⟨$lo,*⟩)
 let n:=cs.size
 if n<3 then return whole
 let R:=mkIdent `zr
 let ids:=(cs.toList.takeWhile fun c=>(obId c).isSome).toArray.map fun c=>(obId c).get!
 let m:=ids.size
 let more (k:Nat) (r:Term):MacroM (TSyntax `tactic):=do
  let q:=lo.extract k n
  `(tactic|obtain ⟨$q,*⟩:=$r)
 let cl<-if e.raw.isIdent then `(tactic|try clear $(⟨e.raw⟩):ident) else `(tactic|skip)
 if m<2 then
  let k:=m+1
  if n-k<2 then return whole
  let pre:=lo.extract 0 k
  let t<-more k R
  return<-`(tactic|(rcases $e:term with ⟨$pre,*,$R:ident⟩<;>$t))
 let mut alts:Array (TSyntax `Lean.Parser.Tactic.tacticSeq):=#[]
 for pre in ["ex","ad"] do
  let lim:=if pre=="ex" then 16 else 16
  for d in [0:m] do
   let j:=m-d
   if j<2||lim<j+1 then continue
   let j:=if j==n then n-1 else j
   let f:=mkIdent (.mkSimple (pre++toString (if pre=="ex" then j else j+1)))
   let rest:=cs.extract j n
   let (r,t)<-do
    if rest.size==1 then match obId rest[0]! with
     |some i=>pure (i,<-`(tactic|skip))
     |none=>pure (R,<-`(tactic|rcases $R:ident with $(⟨rest[0]!⟩):rcasesPatLo))
    else pure (R,<-more j R)
   let xs:=(ids.extract 0 j).push r
   let ts<-`(Lean.Parser.Tactic.tacticSeq|refine $f $e ?_;$cl:tactic;intro $[$xs:ident]*;$t:tactic)
   if !(d==1&&m==n) then alts:=alts.push ts
 alts:=alts.push (<-`(Lean.Parser.Tactic.tacticSeq|$whole:tactic))
 `(tactic|first $[|$alts]*)
open Lean in
local macro_rules|`(tactic|obtain $p:rcasesPatMed:=$e)=>do
 match obOne p >>= obC with
 |some cs=>if cs.size<4 then Macro.throwUnsupported else obGo cs e true
 |none=>Macro.throwUnsupported
@[elab_as_elim] theorem rwL {α:Sort _} {a b:α} {motive:α->Prop} (h:a=b) (m:motive b):motive a:=h▸m
@[elab_as_elim] theorem rwR {α:Sort _} {a b:α} {motive:α->Prop} (h:b=a) (m:motive b):motive a:=h▸m
local macro_rules|`(tactic|erw[$e:term])=>`(tactic|first|refine rwL ($e ..) ?_|rewrite[$e:term])|`(tactic|erw[←$e:term])=>`(tactic|first|refine rwR ($e ..) ?_|rewrite[←$e])
local macro_rules|`(tactic|rw[$r])=>`(tactic|(erw[$r];try with_reducible rfl))|`(tactic|rw[$r,$rs,*])=>`(tactic|(erw[$r];rw[$rs,*]))
open Lean in
def cv:Nat->Syntax->MacroM (TSyntaxArray `rcasesPat)
|0,_=>Macro.throwUnsupported
|n+1,s=>do match s with
 |`($a||$b)=>return (<-cv n a)++(<-cv n b)
 |`(($a,$b,*))=>do
  let ps<-(#[a]++b.getElems).mapM fun x=>do
   let q<-cv n x
   `(Lean.Parser.Tactic.rcasesPatLo|$[$q:rcasesPat]|*)
  return #[<-`(rcasesPat|⟨$ps,*⟩)]
 |`(_)=>return #[<-`(rcasesPat|_)]
 |`($x:ident)=>return #[<-`(rcasesPat|$x:ident)]
 |_=>Macro.throwUnsupported
local macro_rules|`(tactic|let $p:term:=$e)=>do
 let q<-cv 9 p
 `(tactic|obtain $[$q:rcasesPat]|*:=$e)
local macro_rules|`(tactic|let $i:letId $b* $[:$t]?:=$e)=>`(tactic|have $i:letId $b* $[:$t]?:=$e)
local macro_rules|`(!$x)=>`(List $x)
local macro_rules|`($a > $b)=>`($a=some $b)
local macro_rules|`(let $i:letId $b* $[:$t]?:=$e;$r)=>`(have $i:letId $b* $[:$t]?:=$e;$r)
local macro_rules|`(tactic|show $e)=>`(tactic|refine $e)
open Sum (inl inr)
local macro_rules|`(↑$x:ident)=>`(some (.ref $x:ident))
local macro_rules|`(-$x:ident)=>`(($x:ident).mono (by decide))
local macro_rules|`(($a,$b,$c,$d,*))=>`(⟨$a,$b,$c,$d,*⟩)|`(($a,$b,$c))=>`(⟨$a,$b,$c⟩)
local macro_rules|`(abbrev $i:declId $s:optDeclSig $v:declVal)=>`(noncomputable abbrev $i:declId $s:optDeclSig $v:declVal)
local macro_rules|`(())=>`((rfl,rfl,rfl,by decide+kernel,rfl,by decide+kernel,by decide+kernel))
local macro_rules|`(#[$n:num,$b])=>`([(nat_lit $n,$b)])|`(#[$n:num,$b,$c,*])=>`((nat_lit $n,$b)::#[$c,*])
local macro_rules|`(def $i:declId $s:optDeclSig $v:declVal)=>`(noncomputable def $i:declId $s:optDeclSig $v:declVal)
local macro_rules | `(tactic| omega) => `(tactic| first | with_reducible assumption | decide | lia | omega (config := {}))
def aA:=@List.getElem?_eq_some_iff
def bA:=@Option.some.inj
def cA:=@List.getElem?_eq_getElem
def dA:=@List.mem_of_getElem?
def eA:=@PySem.wpAny_bind
def fA:=@List.length_map
def gA:=@if_neg
def iA:=@if_pos
def jA:=@List.length_append
def kA:=@List.mem_cons_of_mem
def lA:=@Bool.false_ne_true
def nA:=@List.mem_singleton
def oA:=@List.getElem?_set
def pA:=@Nat.le_refl
def qA:=@List.length_replicate
def rA:=@List.length_set
def uA:=@PySem.Heap.get?_push_of_some
def vA:=@PySem.wpAny_pure
def wA:=@List.mem_cons_self
def xA:=@List.mem_cons
def yA:=@List.getElem?_set_self
def zA:=@decide_eq_false
def AA:=@List.map_cons
def BA:=@decide_eq_true
def CA:=@List.size_toArray
def DA:=@List.mem_append_right
def EA:=@PySem.Heap.lt_size
def FA:=@List.getElem?_map
def GA:=@List.flatMap_cons
def HA:=@PySem.Heap.get?_push_size
def IA:=@List.mem_iff_getElem?
def JA:=@List.nodup_cons
def KA:=@List.nodup_append
def LA:=@Decidable.byContradiction
def MA:=@List.map_append
def NA:=@List.length_cons
def OA:=@Nat.lt_of_lt_of_le
def QA:=@PyProof.Rows.boot_isinstance
def RA:=@PySem.PassesOwn.leaving
def SA:=@Nat.ne_of_lt
def UA:=@List.mem_append
def VA:=@List.not_mem_nil
def WA:=@List.length_range
def XA:=@Array.getD_eq_getD_getElem?
def YA:=@List.eq_of_mem_replicate
def ZA:=@List.perm_middle
def aB:=@Bool.false_eq_true
def bB:=@PyProof.Rows.boot_list
def cB:=@Bool.and_eq_true
def dB:=@List.length_take
def eB:=@List.take_length
def fB:=@List.filter_cons_of_neg
def gB:=@Int.toNat_natCast
def iB:=@Int.emod_lt_of_pos
def jB:=@List.mem_map
def kB:=@Nat.le_trans
def lB:=@List.cons.injEq
def mB:=@List.Perm.refl
def nB:=@List.filter_cons_of_pos
def oB:=@List.pairwise_iff_getElem
def pB:=@Int.zero_add
def qB:=@Int.emod_nonneg
def rB:=@Array.length_toList
def uB:=@List.take_add_one
def vB:=@Option.some.injEq
def wB:=@decide_eq_true_eq
def xB:=@List.mem_append_left
def yB:=@List.mem_filter
def zB:=@PySem.wpAny_holding
def AB:=@List.set_set
def BB:=@List.replicate_succ
def CB:=@List.getElem?_eq_none
def DB:=@PyProof.Rows.boot_int
def EB:=@List.pairwise_cons
def FB:=@PySem.wpAny_mono
def GB:=@if_false
def HB:=@PySem.Heap.get?_update_other
def IB:=@List.getElem?_append_right
def JB:=@Option.map_eq_some_iff
def KB:=@PySem.Heap.SameBut.update
def LB:=@Nat.zero_le
def MB:=@PySem.sizeLine_eq
def NB:=@List.getElem?_eq_none_iff
def OB:=@List.getElem?_zip_eq_some
def PB:=@List.mem_or_eq_of_mem_set
def QB:=@Array.getElem?_toList
def RB:=@PySem.Heap.get?_update_self
def SB:=@List.set_getElem_self
def TB:=@List.filter_append
def UB:=@List.nodup_nil
def VB:=@PySem.wpAny_typeNameOfWhole_keyiter
def WB:=@Int.eq_ofNat_of_zero_le
def XB:=@PySem.wpAny_dictEntries
def YB:=@Bool.eq_iff_iff
def ZB:=@beq_iff_eq
def aC:=@List.flatMap_append
def bC:=@List.length_zipWith
def cC:=@List.map_nil
def dC:=@List.lookup_cons
def eC:=@List.mem_flatMap
def fC:=@List.append_of_mem
def gC:=@List.length_filter_le
def iC:=@List.append_nil
def jC:=@Nat.not_lt_zero
def kC:=@Nat.lt_irrefl
local macro_rules|`(⋯)=>`(by omega)
local macro_rules|`(∅)=>`(by decide+kernel)
local macro_rules|`(tactic|rfl')=>`(tactic|walk_at "wp")
namespace Hd
open PySem PySem.W PySem.Calls PyProof.Rows
def lI (tb:String->Option Builtin) (p:Program) (w:World) (n0:Nat) (ann:Option Value):Nat->SharedT->Thread->Option SharedT
 |0,_,_=>none
 |n+1,s,t=>match through t with
  |true=>some s
  |false=>match stepOk n0 ann t with
   |false=>none
   |true=>match stepT (denote tb) p w s t with
    |some (s',t')=>lI tb p w n0 ann n s' t'
    |none=>none
theorem RW {tb:String->Option Builtin} {p:Program} {w:World} {n0:Nat} {ann:Option Value}:∀{n:Nat} {s r:SharedT} {t:Thread},lI tb p w n0 ann n s t>r->topRun tb p w n0 ann n s.abs t>r.abs
 |0,_,_,_,h=>by cases h
 |n+1,s,r,t,h=>by
  unfold lI at h;unfold topRun;cases he:through t with
  |true=>rw[he] at h;cases h;rfl
  |false=>
   rw[he] at h;cases hk:stepOk n0 ann t with
   |false=>rw[hk] at h;cases h
   |true=>
    rw[hk] at h;cases hs:stepT (denote tb) p w s t with
    |none=>rw[hs] at h;cases h
    |some x=>let(s2,t2):=x;rw[hs] at h;rw[stepT_spec hs];show RW h
def GN:!Obj->Nat->BT->BT
 |[],_,t=>t
 |o::l,n,t=>GN l (n+1) (t.ins n o)
def HN (P:Params):BT:=GN (boot_heap P).objs.toList 0 .nil
def mI (w:World) (os:OsState):SharedT:=(HN w.params,(boot_heap w.params).objs.size,(boot_heap w.params).life, #[],boot_drawn,boot_toks,os)
theorem X1 (w:World) (j:OsState):(mI w j).abs=(boot_heap w.params, #[],boot_drawn,boot_toks,j):=by kernel_rfl
theorem Y1 (w:World):((boot_heap w.params).isNs mainGlobals&&(#[]:Array GenState).size == 0)=true:=by kernel_rfl
abbrev IN (w:World):Option Value:=(boot_heap w.params).nsMap mainGlobals "__annotations__"
def look {α:Type} (p:Program) (Yf:Shared->α) (H0:Heap) (s:Shared):Bool×α:=
 (staticsOk (importedModules p.main.body) H0 s.heap&&namesBound p s.heap&&gensDone s&&laidKept H0 s.heap,Yf s)
def aR (p:Program) (N:Nat) (w:World) (os:OsState):Option SharedT:=lI treeTable p w (boot_heap w.params).objs.size (IN w) N (mI w os) (topStub p)
def bR {α:Type} (p:Program) (Yf:Shared->α) (N:Nat) (w:World) (os:OsState):=(aR p N w os).map λs=>look p Yf (boot_heap w.params) s.abs
def cR (p q:Program) (loose:!Str) (Xt:Shared->Bool) (N:Nat) (w:World) (os:OsState):=(aR p N w os).map λs=>openSeen q loose (importedModules p.main.body) Xt true s.abs
theorem Z1 {p q:Program} {loose:!Str} {Xt:Shared->Bool} {F:Type} {Yf:Shared->F} {Ya:World->F} {N:Nat}
  (e:opening p=plainProg p.main.scope.names) (W:Nat.ble 600 N=true) (f:∀s,fenceModules? p s>s)
  (one:∀(w:World) (j:OsState),bR p Yf N w j>(true,Ya w)) (two:∀(w:World) (j:OsState),cR p q loose Xt N w j>(openGood q loose)):LeftO p q loose Xt Yf Ya N:=λw=>by
 let((h,V,J,k,j),O,U):=JB.mp (boot_open e W f w);obtain⟨rfl,rfl,rfl,rfl⟩:h=boot_heap w.params/\V= #[]/\J=boot_drawn/\k=boot_toks:=by simpa using U
 let(D,r,l):=JB.mp (one w j);let(a1,r',a0):=JB.mp (two w j);obtain rfl:D=a1:=bA (r.symm.trans r');let r:=RW r;rw[X1] at r;obtain⟨Z,l3⟩:_/\_:=by simpa only[look,Prod.mk.injEq] using l
 let t:topFrom treeTable p w N (boot_heap w.params, #[],boot_drawn,boot_toks,j)>D.abs:=by
  unfold topFrom;dsimp only;rw[Y1 w,r];change (match staticsOk (importedModules p.main.body) (boot_heap w.params) D.abs.heap&&namesBound p D.abs.heap&&gensDone D.abs&&laidKept (boot_heap w.params) D.abs.heap with|true=>_|false=>_)=_;rw[Z]
 unfold openEnds;rw[O];change (topFrom treeTable p w N _).map _=_;rw[t];show congrArg some (Prod.ext a0 l3)
end Hd
namespace Hd
open PySem PySem.W
def SW:Nat->Nat->!Nat
 |0,_=>[]
 |k+1,n=>match Nat.beq n 0 with
  |true=>[]
  |false=>Nat.sub (n % 256) 1::SW k (n / 256)
def S (n:Nat):Str:=⟨⟨SW 200 n⟩⟩
def K2 (P:Params) (x:Str) (t:Nat) (v:Value):DictEntry:=(PyData.keyHash P x,.str x t,v)
def dO (n:Nat) (l:!DictEntry):Obj:=(.type "dict",none,.dict ⟨l⟩ n, #[])
def cO (l:!Value):Obj:=(.type "code",none,.fields ⟨l⟩, #[])
end Hd
namespace Hd
open PySem PySem.W PySem.Calls PyProof.Rows
def TW (tb:String->Option Builtin) (p:Program) (w:World) (n0:Nat) (ann:Option Value):Nat->SharedT->Thread->Option (SharedT×Thread)
 |0,s,t=>some (s,t)
 |n+1,s,t=>match through t with
  |true=>none
  |false=>match stepOk n0 ann t with
   |false=>none
   |true=>match stepT (denote tb) p w s t with
    |some (s',t')=>TW tb p w n0 ann n s' t'
    |none=>none
end Hd
namespace Hd
open PySem PySem.W PySem.Calls PyProof.Rows
theorem tw_run:(λ(_:(String->Option Builtin)->Program->World->Nat->Option Value->Nat->SharedT->Thread->Option SharedT)=>true) lI=true:=by k_qdec
theorem tw_go:(λ(_:(String->Option Builtin)->Program->World->Nat->Option Value->Nat->SharedT->Thread->Option (SharedT×Thread))=>true) TW=true:=by k_qdec
theorem tw_boot:(λ(_:World->OsState->SharedT) (_:World->Option Value)=>true) mI IN=true:=by k_qdec
end Hd
namespace Hd
open PySem PySem.W PySem.Calls PyProof.Rows
def nH (s:SharedT) (a:Addr):Option Obj:=match Nat.blt a s.n with
 |true=>match s.tree.get a with
  |some o=>alive o
  |none=>alive default
 |false=>none
theorem Y3 (s:SharedT) (a:Addr):nH s a=s.abs.heap.get? a:=by
 unfold nH;cases e:Nat.blt a s.n with
 |false=>show (abs_get_none λh=>by rw[show Nat.blt a s.n=true from Nat.ble_eq_true_of_le h] at e;cases e).symm
 |true=>
  let lt:a < s.n:=Nat.le_of_ble_eq_true e;cases g:s.tree.get a with
  |some o=>show (abs_get lt g).symm
  |none=>
   change _=(absHeap s.tree s.n s.life).get? a;unfold Heap.get?;rw[absHeap_at,iA lt,g]
   rfl
def HG (p q:Program) (loose:!Str) (Xt:Shared->Bool) (as:!Addr) (H0:Heap) (s:SharedT):=
 ((staticsOk (importedModules p.main.body) H0 s.abs.heap&&namesBound p s.abs.heap&&gensDone s.abs&&laidKept H0 s.abs.heap,as.map (nH s)),openSeen q loose (importedModules p.main.body) Xt true s.abs)
theorem Z3 {p q:Program} {loose:!Str} {Xt:Shared->Bool} {as:!Addr} {D:Heap} {r:Option SharedT} {K:!(Option Obj)} (h:r.map (HG p q loose Xt as D)>((true,K),openGood q loose)):
  r.map (λs=>look p (λs=>as.map s.heap.get?) D s.abs)>(true,K):=by
 let(s,rfl,l):=JB.mp h;let j:=congrArg Prod.fst l;let e:as.map (nH s)=as.map s.abs.heap.get?:=List.map_congr_left λa ο=>Y3 s a;unfold HG at j;rw[e] at j;show congrArg some j
theorem i4 {p q:Program} {loose:!Str} {Xt:Shared->Bool} {as:!Addr} {j:Heap} {r:Option SharedT} {K:!(Option Obj)} (h:r.map (HG p q loose Xt as j)>((true,K),openGood q loose)):
  r.map (λs=>openSeen q loose (importedModules p.main.body) Xt true s.abs)>(openGood q loose):=by
 let(s,rfl,l):=JB.mp h;show congrArg some (congrArg Prod.snd l)
def PJ (p q:Program) (loose:!Str) (Xt:Shared->Bool) (as:!Addr) (N:Nat) (w:World) (os:OsState):=(aR p N w os).map (HG p q loose Xt as (boot_heap w.params))
theorem tw_look2:(λ(_:Program->Program->!Str->(Shared->Bool)->!Addr->Heap->SharedT->_)=>true) HG=true:=by k_qdec
theorem tw_once2:(λ(_:Program->Program->!Str->(Shared->Bool)->!Addr->Nat->World->OsState->Option _)=>true) PJ=true:=by k_qdec
end Hd
namespace L2
open PySem
def oC (s:Stmt) (j:Nat):Stmt:=match s with
 |.ClassDef _ _ _ body _ _ _ _ _ _ _=>body.getD j (.Pass (0,0,0,0))
 |_=>.Pass (0,0,0,0)
def uD (s:Stmt):Arguments:=match s with
 |.FunctionDef _ a _ _ _ _ _ _ _ _=>a
 |_=>{posonlyargs:=[],args:=[],vararg:=none,kwonlyargs:=[],kw_defaults:=[],kwarg:=none,defaults:=[]}
def eD (s:Stmt):!Stmt:=match s with
 |.FunctionDef _ _ b _ _ _ _ _ _ _=>b
 |_=>[]
def mC (s:Stmt):Scope:=match s with
 |.FunctionDef _ _ _ _ _ _ sc _ _ _=>sc
 |_=>{kind:=.function,names:=[],isGenerator:=false,isCoroutine:=false}
end L2
def PySem.W.Fast.tw6195307912642826685:PySem.Program:=PySem.Challenge.pw_frameland_k69_plain_sheets
theorem PySem.W.Fast.te6195307912642826685:PySem.Challenge.pw_frameland_k69_plain_sheets=PySem.W.Fast.tw6195307912642826685:=rfl
namespace Pf
open PySem L2
def TC (i:Nat):Stmt:=PySem.Challenge.pw_frameland_k69_plain_sheets.main.body.getD i (.Pass (0,0,0,0))
noncomputable section
open Hd
def z0:Nat:=803767673971337431755345562442186130224480041307669913597339135429337709
def z1:Nat:=27127582262911072
def z2:Nat:=9700865007064396754801562313776
def z3:Nat:=545146499936607105348423
def z4:Nat:=2018578202597599112544
def z5:Nat:=1889380072283105815904
def z6:Nat:=8464076109328313696
def z7:Nat:=1871007083449387478368
def z8:Nat:=2056639130074922740365089805856096
def z9:Nat:=140718928223406706361789792
def gQ:Nat:=497995685371741280038240
def iQ:Nat:=1999481813178129739104
def jQ:Nat:=135892597258057197952331104
def kQ:Nat:=122585060169398306681810272
def lQ:Nat:=478848397644772411600224
def z15:Nat:=1889886165390743203168
def mQ:Nat:=139509984824270207699807584
def nQ:Nat:=554405825948688972934496
def oQ:Nat:=1870499847949168831840
def pQ:Nat:=1890460943890256129376
def WO:Nat:=455125450472104437637216
def XO:Nat:=500416517772168279997240570217455712
def YO:Nat:=140854816109632365363434125429399349832812124725344
def qQ:Nat:=116512133262362862868258912
def MM:Nat:=6944679725401530464
def gJ:Nat:=604688386180134175214183720302048103
def xF:Nat:=154800023163187350263413837515144196967
def s (n t:Nat):Value:=.str (S n) t
def i (n:Int):Value:=.int n 0
def e (P:Params) (n t:Nat) (v:Value):DictEntry:=K2 P (S n) t v
def cQ' (a b t:Nat) (l n:Int) (r m:Nat):Obj:=cO [s a t,s b (t+1),s z2 (t+2),i l,i n,i 0,i 0,i 3,.ref r,.bool true,i 181,.ref (r+1),.none,.ref (r+2),.ref (r+3),.ref (r+4),i m,i l,s z2 (m+1)]
def cR' (a b t:Nat) (l:Int) (r m:Nat):Obj:=cO [s a t,s b (t+1),s z2 (t+2),i l,i 0,i 0,i 0,i 0,.ref r,.bool false,i 181,.ref (r+1),.none,.none,.none,.none,i m,i l,s z2 (m+1)]
def fO (a b:String) (x:Stmt) (m r:Value):Obj:=(.type "function",none,.func (W.fnOf (Str.ofString a) (Str.ofString b) (uD x) (eD x) (mC x) .none .none .none m none r .none), #[])
def kP' (n:String) (b m:!Value) (d:Nat) (u:!Value) (x y v w:Nat):Obj:=(.type "type",none,.cls {name:=Str.ofString n,bases:=b,mro:=m,ns:=d,qualname:=Str.ofString n,hasDict:=true,slotNames:=[],subclasses:=u,abstract:=false,collection:=none,hasDel:=false}, #[none,none,some (s x y),some (s v w),some (.builtin "object.__new__"),some (.bool true)])
def fP' (a:String) (x:Stmt) (m:Value) (r:Nat):Obj:=fO a a x m (.ref r)
def o3 (P:Params):Obj:=dO 33 [e P 6944663249689206880 165 (s z0 608),e P z1 166 .none,e P 116512114954948911152848992 167 .none,e P 455126385231797511086176 168 (.builtin "__main__.__loader__#opaque"),e P 6944661016558198880 169 .none,e P 500416834696884185539869749159288928 170 (.ref 6),e P 29827167671303893903271485536 171 (.ref 4),e P 6944663245527933024 173 (s z2 172),e P 455125376429887381069920 174 .none,e P 469986605152 193 (.ref 21),e P z3 213 (.ref 31),e P 121429199908943 229 (.ref 44),e P 504413714548 241 (.ref 53),e P 504229161300 287 (.ref 82),e P 500186509652 340 (.ref 122),e P 128047577983316 607 (.ref 314),e P z4 617 (.ref 325),e P z5 626 (.ref 332),e P z6 641 (.ref 339),e P z7 651 (.ref 346),e P z8 659 (.ref 353),e P z9 665 (.ref 358),e P gQ 676 (.ref 365),e P iQ 687 (.ref 372),e P jQ 698 (.ref 379),e P kQ 704 (.ref 384),e P lQ 715 (.ref 391),e P z15 721 (.ref 396),e P mQ 731 (.ref 403),e P nQ 737 (.ref 408),e P oQ 743 (.ref 413),e P pQ 752 (.ref 420),e P 7889517 758 (.ref 425)]
def V7 (P:Params):Obj:=dO 3 [e P WO 203 (s 154789842426610354947036250589871895399 194),e P XO 207 (.int (5) 206),e P YO 208 (.ref 29),e P qQ 210 (.ref 32),e P z1 211 .none]
def W7:Obj:=((.type "type"),none,.cls {name:=(Str.ofString "FrameError"),bases:=[(.type "ValueError")],mro:=[.ref 31,(.type "ValueError"),(.type "Exception"),(.type "BaseException"),(.type "object")],ns:=30,qualname:=(Str.ofString "FrameError"),hasDict:=true,slotNames:=[],subclasses:=[.ref 44],abstract:=false,collection:=none,hasDel:=false}, #[(some (.ref 22)),none,(some (s z3 196)),(some (s z3 204)),(some (.builtin "ValueError.__new__")),(some (.bool true))])
def X7 (P:Params):Obj:=dO 2 [e P WO 221 (s 154789842426610354947036250589871895399 194),e P XO 225 (.int (7) 224),e P YO 226 (.ref 42),e P z1 227 .none]
def Y7:Obj:=((.type "type"),none,.cls {name:=(Str.ofString "NoRoom"),bases:=[.ref 31],mro:=[.ref 44,.ref 31,(.type "ValueError"),(.type "Exception"),(.type "BaseException"),(.type "object")],ns:=43,qualname:=(Str.ofString "NoRoom"),hasDict:=true,slotNames:=[],subclasses:=[],abstract:=false,collection:=none,hasDel:=false}, #[(some (.ref 35)),none,(some (s 121429199908943 214)),(some (s 121429199908943 222)),(some (.builtin "ValueError.__new__")),(some (.bool true))])
def Z7:Obj:=cQ' 504413714548 504413714548 232 10 2 47 239
def f8:Obj:=fP' "swept" (TC 5) (s 604424633459520194665304702243205991 230) 52
def i8:Obj:=cQ' MM 1954753563970360692704800173091156 256 20 3 61 262
def n8:Obj:=fO "__init__" "Sheet.__init__" (oC (TC 7) 0) (s gJ 242) (.ref 66)
def o8:Obj:=cQ' 36039771160920033285907509365 10144293748177338121204804511615218490960212 265 24 1 68 269
def r8:Obj:=fO "told_holders" "Sheet.told_holders" (oC (TC 7) 1) (s gJ 242) (.ref 73)
def y8:Obj:=cO [s 1870501547802382857322 272,s 526499379604921715462623747400690004 273,s z2 274,i 27,i 1,i 0,i 0,i 3,.ref 75,(.bool true),i 181,.ref 76,.none,.none,.none,.ref 77,i 275,i 27,s z2 276]
def I8:Obj:=fO "is_banked" "Sheet.is_banked" (oC (TC 7) 2) (s gJ 242) (.ref 78)
def K8 (P:Params):Obj:=dO 4 [e P WO 251 (s gJ 242),e P XO 255 (.int (18) 254),e P MM 264 (.ref 67),e P 36039771160920033285907509365 271 (.ref 74),e P 1870501547802382857322 277 (.ref 79),e P YO 280 (.ref 80),e P 6944679699547512928 282 (.ref 83),e P qQ 284 (.ref 84),e P z1 285 .none]
def M8:Obj:=kP' "Sheet" [(.type "object")] [.ref 82,(.type "object")] 81 [] 504229161300 244 504229161300 252
def N8:Obj:=cQ' MM 1954753563970360692704796130439508 300 31 2 94 305
def ET:Obj:=fO "__init__" "Spots.__init__" (oC (TC 8) 0) (s gJ 242) (.ref 99)
def FT:Obj:=cQ' 148043559308712686361209447 41670557408582523668509479316187165782356 308 35 1 101 314
def GT:Obj:=fO "first_empty" "Spots.first_empty" (oC (TC 8) 1) (s gJ 242) (.ref 106)
def IT:Obj:=cQ' 526146714420258238851687 148097134187830361177623957051129491796 317 41 1 108 322
def JT:Obj:=fO "first_twin" "Spots.first_twin" (oC (TC 8) 2) (s gJ 242) (.ref 113)
def MT:Obj:=cO [s 554573001519589316061805 325,s 156098422687084997236258294064131109204 326,s z2 327,i 47,i 1,i 0,i 0,i 3,.ref 115,(.bool true),i 181,.ref 116,.none,.none,.none,.ref 117,i 328,i 47,s z2 329]
def NT:Obj:=fO "live_count" "Spots.live_count" (oC (TC 8) 3) (s gJ 242) (.ref 118)
def OT (P:Params):Obj:=dO 4 [e P WO 295 (s gJ 242),e P XO 299 (.int (29) 298),e P MM 307 (.ref 100),e P 148043559308712686361209447 316 (.ref 107),e P 526146714420258238851687 324 (.ref 114),e P 554573001519589316061805 330 (.ref 119),e P YO 333 (.ref 120),e P 6944679699547512928 335 (.ref 123),e P qQ 337 (.ref 124),e P z1 338 .none]
def QT:Obj:=kP' "Spots" [(.type "object")] [.ref 122,(.type "object")] 121 [] 500186509652 288 500186509652 296
def UT:Obj:=cQ' MM 500416912376412337332427809224026452 355 52 4 134 362
def VT:Obj:=fO "__init__" "Sheets.__init__" (oC (TC 10) 0) (s xF 341) (.ref 139)
def WT:Obj:=cQ' 452924437351 32636645236508639938168121684 365 61 4 141 373
def XT:Obj:=fO "fresh" "Sheets.fresh" (oC (TC 10) 1) (s xF 341) (.ref 146)
def YT:Obj:=cQ' 1818518115 131038040094645320163944788 376 68 3 148 384
def ZT:Obj:=fO "back" "Sheets.back" (oC (TC 10) 2) (s xF 341) (.ref 153)
def aU:Obj:=cQ' 1701671017 122618319342451338909215060 387 79 3 155 394
def bU:Obj:=fO "hold" "Sheets.hold" (oC (TC 10) 3) (s xF 341) (.ref 160)
def cU:Obj:=cQ' 123593597216365 8905857253904022728413553256788 397 83 3 162 404
def dU:Obj:=fO "let_go" "Sheets.let_go" (oC (TC 10) 4) (s xF 341) (.ref 167)
def eU:Obj:=cQ' 488476733378837491839081 35198458150785434460000437533358669850964 407 89 2 169 413
def fU:Obj:=fO "holders_of" "Sheets.holders_of" (oC (TC 10) 5) (s xF 341) (.ref 174)
def gU:Obj:=cQ' 8458429107500640628 609494050826874274975507821181167956 424 96 2 183 430
def hU:Obj:=fO "sheet_at" "Sheets.sheet_at" (oC (TC 10) 7) (s xF 341) (.ref 188)
def iU:Obj:=cQ' 113732352569443 8195279690427427246896753043796 433 100 3 190 439
def jU:Obj:=fO "box_of" "Sheets.box_of" (oC (TC 10) 8) (s xF 341) (.ref 195)
def kU:Obj:=cQ' 34182044304369268 2463075871870707541703845600454996 442 103 4 197 449
def lU:Obj:=fO "set_box" "Sheets.set_box" (oC (TC 10) 9) (s xF 341) (.ref 202)
def mU:Obj:=cQ' 1701671015 122618319198336150833359188 452 107 1 204 461
def nU:Obj:=fO "fold" "Sheets.fold" (oC (TC 10) 10) (s xF 341) (.ref 209)
def oU:Obj:=cQ' 140789800901245672938236525 10144974318022661352875422811256588356446548 464 119 1 211 468
def pU:Obj:=fO "live_sheets" "Sheets.live_sheets" (oC (TC 10) 11) (s xF 341) (.ref 216)
def qU:Obj:=cQ' 30801127769404522 2219455160718099884163236951910740 471 122 1 218 475
def sU:Obj:=fO "is_full" "Sheets.is_full" (oC (TC 10) 12) (s xF 341) (.ref 223)
def tU:Obj:=cQ' 33040738433327721 2380836116742092014812639552498004 478 125 1 225 482
def uU:Obj:=fO "hand_at" "Sheets.hand_at" (oC (TC 10) 13) (s xF 341) (.ref 230)
def vU:Obj:=cQ' 140719112692525297883246709 10139880695775420249778937948812234134546772 485 128 1 232 492
def wU:Obj:=fO "told_frames" "Sheets.told_frames" (oC (TC 10) 14) (s xF 341) (.ref 237)
def xU:Obj:=cO [s 549960882328764939071605 495,s 39628857995586799648525390943893217241428 496,s z2 497,i 137,i 1,i 0,i 0,i 3,.ref 239,(.bool true),i 181,.ref 240,.none,.none,.none,.ref 241,i 498,i 137,s z2 499]
def yU:Obj:=fO "told_slots" "Sheets.told_slots" (oC (TC 10) 15) (s xF 341) (.ref 242)
def zU:Obj:=cQ' 8458429051817327213 609494046814468682230731163709106516 508 143 2 251 514
def AU:Obj:=fO "lying_at" "Sheets.lying_at" (oC (TC 10) 17) (s xF 341) (.ref 256)
def BU:Obj:=cO [s 2148284700994785078626 517,s 154800226862173623962013088011365280084 518,s z2 519,i 147,i 1,i 0,i 0,i 3,.ref 258,(.bool true),i 181,.ref 259,.none,.none,.none,.ref 260,i 520,i 147,s z2 521]
def CU:Obj:=fO "all_spots" "Sheets.all_spots" (oC (TC 10) 18) (s xF 341) (.ref 261)
def DU:Obj:=cQ' 2166370315886094282869 156103432757937886773936481808104712532 523 151 2 263 530
def EU:Obj:=fO "told_slot" "Sheets.told_slot" (oC (TC 10) 19) (s xF 341) (.ref 268)
def FU:Obj:=cQ' 2128759062150016623209 153393256304966102397104309401490450772 533 160 3 270 540
def GU:Obj:=fO "hand_over" "Sheets.hand_over" (oC (TC 10) 20) (s xF 341) (.ref 275)
def HU:Obj:=cQ' 578295153549658678911598 41670557408582505496529931128187121985876 543 165 2 277 548
def IU:Obj:=fO "make_empty" "Sheets.make_empty" (oC (TC 10) 21) (s xF 341) (.ref 282)
def JU:Obj:=cQ' 2055260603203882086509 148097134187812227235189991446143199572 551 172 2 284 557
def KU:Obj:=fO "lose_twin" "Sheets.lose_twin" (oC (TC 10) 22) (s xF 341) (.ref 289)
def LU:Obj:=cQ' 2129475116924502438759 153444853489214921332424288546578655572 560 178 3 291 568
def MU:Obj:=fO "frame_for" "Sheets.frame_for" (oC (TC 10) 23) (s xF 341) (.ref 296)
def NU:Obj:=cQ' 33062797301872241 2382425625736609055251908520208724 571 186 3 298 579
def OU:Obj:=fO "put_out" "Sheets.put_out" (oC (TC 10) 24) (s xF 341) (.ref 303)
def PU:Obj:=cQ' 8318262175738129780 599393958960389321452523230538918228 582 198 3 305 590
def QU:Obj:=fO "slot_for" "Sheets.slot_for" (oC (TC 10) 25) (s xF 341) (.ref 310)
def RU (P:Params):Obj:=dO 4 [e P WO 350 (s xF 341),e P XO 354 (.int (50) 353),e P MM 364 (.ref 140),e P 452924437351 375 (.ref 147),e P 1818518115 386 (.ref 154),e P 1701671017 396 (.ref 161),e P 123593597216365 406 (.ref 168),e P 488476733378837491839081 415 (.ref 175),e P 36344496227587819637979312233 423 (.ref 182),e P 8458429107500640628 432 (.ref 189),e P 113732352569443 441 (.ref 196),e P 34182044304369268 451 (.ref 203),e P 1701671015 463 (.ref 210),e P 140789800901245672938236525 470 (.ref 217),e P 30801127769404522 477 (.ref 224),e P 33040738433327721 484 (.ref 231),e P 140719112692525297883246709 494 (.ref 238),e P 549960882328764939071605 500 (.ref 243),e P 435510800494 507 (.ref 250),e P 8458429051817327213 516 (.ref 257),e P 2148284700994785078626 522 (.ref 262),e P 2166370315886094282869 532 (.ref 269),e P 2128759062150016623209 542 (.ref 276),e P 578295153549658678911598 550 (.ref 283),e P 2055260603203882086509 559 (.ref 290),e P 2129475116924502438759 570 (.ref 297),e P 33062797301872241 581 (.ref 304),e P 8318262175738129780 592 (.ref 311),e P YO 600 (.ref 312),e P 6944679699547512928 602 (.ref 315),e P qQ 604 (.ref 316),e P z1 605 .none]
def SU:Obj:=kP' "Sheets" [(.type "object")] [.ref 314,(.type "object")] 313 [] 128047577983316 343 128047577983316 351
def TU:Obj:=cQ' z4 z4 610 207 2 319 615
def UU:Obj:=fP' "_law_cell" (TC 12) (s z0 608) 324
def VU:Obj:=cQ' z5 z5 618 211 2 326 624
def WU:Obj:=fP' "_law_like" (TC 13) (s z0 608) 331
def XU:Obj:=cQ' z6 z6 627 230 3 333 639
def YU:Obj:=fP' "_law_out" (TC 14) (s z0 608) 338
def ZU:Obj:=cQ' z7 z7 642 255 2 340 649
def aV:Obj:=fP' "_law_told" (TC 15) (s z0 608) 345
def bV:Obj:=cQ' z8 z8 652 263 2 347 657
def cV:Obj:=fP' "_law_untwinned" (TC 16) (s z0 608) 352
def eV:Obj:=cO [s z9 660,s z9 661,s z2 662,i 267,i 2,i 0,i 0,i 3,.ref 354,(.bool true),i 181,.ref 355,.none,.none,.none,.ref 356,i 663,i 267,s z2 664]
def fV:Obj:=fP' "_law_places" (TC 17) (s z0 608) 357
def hV:Obj:=cQ' gQ gQ 666 270 4 359 674
def iV:Obj:=fP' "_law_fresh" (TC 18) (s z0 608) 364
def jV:Obj:=cQ' iQ iQ 677 276 3 366 685
def lV:Obj:=fP' "_law_back" (TC 19) (s z0 608) 371
def mV:Obj:=cQ' jQ jQ 688 284 3 373 696
def nV:Obj:=fP' "_law_let_go" (TC 20) (s z0 608) 378
def pV:Obj:=cO [s kQ 699,s kQ 700,s z2 701,i 292,i 1,i 0,i 0,i 3,.ref 380,(.bool true),i 181,.ref 381,.none,.none,.none,.ref 382,i 702,i 292,s z2 703]
def qV:Obj:=fP' "_law_folded" (TC 21) (s z0 608) 383
def rV:Obj:=cQ' lQ lQ 705 309 4 385 713
def sV:Obj:=fP' "_law_asked" (TC 22) (s z0 608) 390
def tV:Obj:=cO [s z15 716,s z15 717,s z2 718,i 315,i 8,i 0,i 0,i 3,.ref 392,(.bool true),i 181,.ref 393,.none,.none,.none,.ref 394,i 719,i 315,s z2 720]
def uV:Obj:=fP' "_law_more" (TC 23) (s z0 608) 395
def vV:Obj:=cQ' mQ mQ 722 341 3 397 729
def wV:Obj:=fP' "_law_number" (TC 24) (s z0 608) 402
def xV:Obj:=cO [s nQ 732,s nQ 733,s z2 734,i 346,i 2,i 0,i 0,i 3,.ref 404,(.bool true),i 181,.ref 405,.none,.none,.none,.ref 406,i 735,i 346,s z2 736]
def yV:Obj:=fP' "_law_sheet" (TC 25) (s z0 608) 407
def zV:Obj:=cO [s oQ 738,s oQ 739,s z2 740,i 350,i 6,i 0,i 0,i 3,.ref 409,(.bool true),i 181,.ref 410,.none,.none,.none,.ref 411,i 741,i 350,s z2 742]
def AV:Obj:=fP' "_law_deed" (TC 26) (s z0 608) 412
def BV:Obj:=cQ' pQ pQ 744 364 3 414 750
def CV:Obj:=fP' "_law_size" (TC 27) (s z0 608) 419
def DV:Obj:=cO [s 7889517 753,s 7889517 754,s z2 755,i 368,i 1,i 0,i 0,i 3,.ref 421,(.bool true),i 181,.ref 422,.none,.none,.none,.ref 423,i 756,i 368,s z2 757]
def EV:Obj:=fP' "law" (TC 28) (s z0 608) 424
def Kf:Params->W.Frag:=λP=>#[3,o3 P,30,V7 P,31,W7,43,X7 P,44,Y7,52,Z7,53,f8,66,i8,67,n8,73,o8,74,r8,78,y8,79,I8,81,K8 P,82,M8,99,N8,100,ET,106,FT,107,GT,113,IT,114,JT,118,MT,119,NT,121,OT P,122,QT,139,UT,140,VT,146,WT,147,XT,153,YT,154,ZT,160,aU,161,bU,167,cU,168,dU,174,eU,175,fU,188,gU,189,hU,195,iU,196,jU,202,kU,203,lU,209,mU,210,nU,216,oU,217,pU,223,qU,224,sU,230,tU,231,uU,237,vU,238,wU,242,xU,243,yU,256,zU,257,AU,261,BU,262,CU,268,DU,269,EU,275,FU,276,GU,282,HU,283,IU,289,JU,290,KU,296,LU,297,MU,303,NU,304,OU,310,PU,311,QU,313,RU P,314,SU,324,TU,325,UU,331,VU,332,WU,338,XU,339,YU,345,ZU,346,aV,352,bV,353,cV,357,eV,358,fV,364,hV,365,iV,371,jV,372,lV,378,mV,379,nV,383,pV,384,qV,390,rV,391,sV,395,tV,396,uV,402,vV,403,wV,407,xV,408,yV,412,zV,413,AV,419,BV,420,CV,424,DV,425,EV]
def Kc (P:Params):!(Option Obj):=(Kf P).map λp=>some p.2
def HI:!Addr:=[3,30,31,43,44,52,53,66,67,73,74,78,79,81,82,99,100,106,107,113,114,118,119,121,122,139,140,146,147,153,154,160,161,167,168,174,175,188,189,195,196,202,203,209,210,216,217,223,224,230,231,237,238,242,243,256,257,261,262,268,269,275,276,282,283,289,290,296,297,303,304,310,311,313,314,324,325,331,332,338,339,345,346,352,353,357,358,364,365,371,372,378,379,383,384,390,391,395,396,402,403,407,408,412,413,419,420,424,425]
def _root_.PySem.W.Fast.tw2978598463251682248:Params->W.Frag:=Kf
theorem _root_.PySem.W.Fast.te2978598463251682248:@Eq (Params->W.Frag) Kf _root_.PySem.W.Fast.tw2978598463251682248:=rfl
def _root_.PySem.W.Fast.tw178197174607172993:!Addr:=HI
theorem _root_.PySem.W.Fast.te178197174607172993:@Eq (!Addr) HI _root_.PySem.W.Fast.tw178197174607172993:=rfl
theorem ZO (P:Params):HI=(Kf P).map (·.1):=by kernel_rfl
theorem aP (P:Params):Kc P=(Kf P).map λp=>some p.2:=rfl
def vw:Program:=W.view PySem.Challenge.pw_frameland_k69_plain_sheets [28]
def lo:!Str:=S 469986605152::S 504413714548::S z4::S z5::S z6::S z7::S z8::S z9::S gQ::S iQ::S jQ::S kQ::S lQ::S z15::S mQ::S nQ::S oQ::S pQ::S 504229161300::S 500186509652::S 128047577983316::S z3::S 121429199908943::[]
def lhs:=PJ PySem.Challenge.pw_frameland_k69_plain_sheets vw lo (λs=>W.xlAt vw [] s&&W.recOk (W.RowW.records (PySem.Challenge.rw_frameland_k69_plain_sheets).row.toRowW) s) HI 5464
def rhs (w:World):=some ((true,Kc w.params),W.openGood vw lo)
theorem twins:(λ(_:World->OsState->_) (_:World->_)=>true) lhs rhs=true:=by k_qdec
theorem O8:∀(w:World) (j:OsState),PySem.W.Fast.tw7128866508377749982 w j=PySem.W.Fast.tw12590348191598281069 w:=by intro w j;kernel_rfl
theorem YY (w:World) (j:OsState):lhs w j=rhs w:=(congrFun (congrFun PySem.W.Fast.te7128866508377749982 w) j).trans ((O8 w j).trans (congrFun PySem.W.Fast.te12590348191598281069 w).symm)
theorem left:W.LeftO PySem.Challenge.pw_frameland_k69_plain_sheets vw lo (λs=>W.xlAt vw [] s&&W.recOk (W.RowW.records (PySem.Challenge.rw_frameland_k69_plain_sheets).row.toRowW) s) (λs=>HI.map s.heap.get?) (λw=>(Kf w.params).map λp=>some p.2) (5464):=by
 show Z1 (by kernel_rfl) (by kernel_rfl) (by intro s;kernel_rfl) (λw j=>?_) λw j=>?_
 .rw[<-aP];show Z3 (YY w j)
 .show i4 (YY w j)
end
end Pf
namespace L2
open PySem PySem.Spec PyProof.Rows
abbrev Key:=Sum Int Str
def VF:Key->Value->Bool
 |.inl k,v=>Value.isInt k v
 |.inr x,v=>Value.isStrOf x v
def rQ (w:World):Key->Int
 |.inl k=>hashInt k
 |.inr x=>hashStr w x
theorem II:∀{k:Key} {v:Value},VF k v=true->(∃i t,k=inl i/\v=Value.int i t)\/(∃x t,k=inr x/\v=Value.str x t)
 |.inl i,v,h=>by
  let(t,e):=Value.isInt_shape (k:=i) (v:=v) h;show .inl (i,t,rfl,e)
 |.inr x,v,h=>by
  let(t,e):=Value.isStrOf_shape (x:=x) (v:=v) h;show .inr (x,t,rfl,e)
theorem ZY (i:Int) (t:Tok):VF (.inl i) (.int i t)=true:=by simp[VF,Value.isInt]
theorem aZ (x:Str) (t:Tok):VF (.inr x) (.str x t)=true:=by simp[VF,Value.isStrOf]
theorem oK (a b:Int):decide ((inl a:Key)=inl b)=(a == b):=by
 by_cases e:a=b
 .subst e;simp
 .let h:¬(inl a:Key)=inl b:=λq=>e (Sum.inl.inj q);rw[zA h];show (beq_eq_false_iff_ne.mpr e).symm
theorem pK (a b:Str):decide ((inr a:Key)=inr b)=decide (a=b):=by
 by_cases e:a=b
 .subst e;simp
 .let h:¬(inr a:Key)=inr b:=λq=>e (Sum.inr.inj q);rw[zA h,zA e]
theorem qK (a:Int) (b:Str):decide ((inl a:Key)=inr b)=false:=zA nofun
theorem rK (a:Str) (b:Int):decide ((inr a:Key)=inl b)=false:=zA nofun
def aD (prog:Program) (w:World):PySem.KeyKind prog w Key where
 is:=VF
 hash:=rQ w
 inj:=λv a b ha hb=>by
  let(i,t,rfl,rfl)||(x,t,rfl,rfl):=II ha
  .let(j,u,rfl,e)||(y,u,rfl,e):=II hb
   .injection e with e1 _;rw[e1]
   .show nomatch e
  .let(j,u,rfl,e)||(y,u,rfl,e):=II hb
   .show nomatch e
   .injection e with e1 _;rw[e1]
 byValue:=λk v h=>by
  let(i,t,rfl,rfl)||(x,t,rfl,rfl):=II h<;>rfl
 pyHash:=λhv h=>by
  let(i,t,rfl,rfl)||(x,t,rfl,rfl):=II hv
  .show wpAny_pyHash_int h
  .show wpAny_pyHash_str h
 eqBool:=λhu hv h=>by
  let(i,t,rfl,rfl)||(x,t,rfl,rfl):=II hu
  .let(j,u,rfl,rfl)||(y,u,rfl,rfl):=II hv
   .rw[oK] at h;show wpAny_eqBool_int h
   .rw[qK] at h;show SeqAt.EqAt.int_str i t y u _ _ _ _ h
  .let(j,u,rfl,rfl)||(y,u,rfl,rfl):=II hv
   .rw[rK] at h;show SeqAt.EqAt.str_int x t j u _ _ _ _ h
   .rw[pK] at h;show wpAny_eqBool_str h
 «strs» :=λk x t v h=>by
  let(i,u,rfl,e)||(y,u,rfl,e):=II h
  .show nomatch e
  .injection e with e1 _;subst e1;cases v<;>rfl
theorem bZ (prog:Program) (w:World) (i:Int) (t:Tok):(aD prog w).is (.inl i) (.int i t)=true:=ZY i t
theorem cZ (prog:Program) (w:World) (x:Str) (t:Tok):(aD prog w).is (.inr x) (.str x t)=true:=aZ x t
inductive V where
 |non|bl (b:Bool)|int (i:Int)|str (x:Str)|byt (b:Array UInt8)|flt (b:UInt64)|ref (a:Addr)|ty (n:String)
 deriving DecidableEq
def DC:V->Value->Prop
 |.non,u=>u=Value.none
 |.bl b,u=>u=Value.bool b
 |.int i,u=>∃t,u=Value.int i t
 |.str x,u=>∃t,u=Value.str x t
 |.byt b,u=>∃t,u=Value.bytes b t
 |.flt b,u=>∃t,u=Value.float b t
 |.ref a,u=>u=Value.ref a
 |.ty n,u=>u=Value.type n
abbrev zC:!V->!Value->Prop:=Paired DC
theorem zC.length {xs:!V} {us:!Value} (r:zC xs us):xs.length=us.length:=Paired.length r
theorem zC.get:∀{xs:!V} {us:!Value} {i:Nat} {x:V},zC xs us->xs[i]?>x->∃u,us[i]?>u/\DC x u
 |_,_,_,_,.nil,e=>by simp at e
 |_,_,0,_,.cons r _,e=>by simp at e;subst e;show(_,rfl,r)
 |_,_,i+1,x,.cons _ t,e=>by
  let(u,h1,h2):=zC.get (i:=i) (x:=x) t (by simpa using e);show(u,by simpa using h1,h2)
theorem zC.set {x:V} {u:Value} (r:DC x u):∀{xs:!V} {us:!Value} (i:Nat),zC xs us->zC (xs.set i x) (us.set i u)
 |_,_,_,.nil=>.nil
 |_,_,0,.cons _ t=>.cons r t
 |_,_,i+1,.cons q t=>.cons q (zC.set r i t)
theorem zC.append:∀{xs ys:!V} {us ws:!Value},zC xs us->zC ys ws->zC (xs++ys) (us++ws)
 |_,_,_,_,.nil,s=>s
 |_,_,_,_,.cons r t,s=>.cons r (zC.append t s)
theorem zC.take:∀{xs:!V} {us:!Value} (n:Nat),zC xs us->zC (xs.take n) (us.take n)
 |_,_,0,_=>.nil
 |_,_,_+1,.nil=>.nil
 |_,_,n+1,.cons r t=>.cons r (zC.take n t)
theorem zC.drop:∀{xs:!V} {us:!Value} (n:Nat),zC xs us->zC (xs.drop n) (us.drop n)
 |_,_,0,r=>r
 |_,_,_+1,.nil=>.nil
 |_,_,n+1,.cons _ t=>zC.drop n t
def ME:Option V->Option Value->Prop
 |some v,some u=>DC v u
 |none,none=>True
 |_,_=>False
def KV {κ:Type}:!(κ×V)->!(κ×Value)->Prop:=Paired λ(p:κ×V) (q:κ×Value)=>p.1=q.1/\DC p.2 q.2
def kV:Key->V
 |.inl i=>.int i
 |.inr x=>.str x
inductive HO where
 |lst (xs:!V)
 |tup (xs:!V)
 |dK (kvs:!(Key×V))|dT (kvs:!(!Key×V))
 |set (S:Int->Bool) (n:Nat)
 |ins (C dx:Addr) (fs:!(Str×V))
 |own (x:Addr)
 |xd (fs:!(Str×V))
 |met (f x:Addr)
 |rng (lo hi:Int)
 |frz (o:Obj) (u:HO)
 |tbl (ps:Array Value)
 |ext (φ:Heap->Prop)
abbrev Hp:=Addr->Option HO
def upd (H:Hp) (a:Addr) (o:HO):Hp:=λb=>if b=a then some o else H b
theorem HC {H:Hp} {a:Addr} {o:HO}:upd H a o a>o:=by unfold upd;rw[iA rfl]
theorem sC {H:Hp} {a b:Addr} {o:HO} (h:b≠a):upd H a o b=H b:=by unfold upd;rw[gA h]
theorem dZ {H:Hp} {a:Addr} {o u:HO}:upd (upd H a o) a u=upd H a u:=by
 funext b;unfold upd;split<;>rfl
theorem HD {H:Hp} {a b:Addr} {o u:HO} (h:H a>o) (h':H b>u) (d:o≠u):a≠b:=by
 intro e;subst e;rw[h] at h';show d (bA h')
theorem mE {H:Hp} {a b:Addr} {o:HO} (h:H a>o) (h':H b=none):a≠b:=by
 intro e;subst e;rw[h] at h';cases h'
section
variable (P:Program) (w:World)
def MC (H:Hp) (h:Heap) (a:Addr):HO->Prop
 |.lst xs=>xs.length<=sizeLine/\∃(its:!Value) (n:Nat),zC xs its/\h.get? a>{cls:=.type "list",data:=.seq its.toArray n}
 |.tup xs=>xs.length<=sizeLine/\∃its:!Value,zC xs its/\IsTup h a its.toArray
 |.dK kvs=>kvs.length<=sizeLine/\(a == sysModules)=false/\∃vs,KV kvs vs/\h.DictOf (aD P w) a vs
 |.dT kvs=>kvs.length<=sizeLine/\(a == sysModules)=false/\∃xs:!(!Key×Addr×Value),
  Paired (λ(p:!Key×V) (q:!Key×Addr×Value)=>p.1=q.1/\H q.2.1>(.tup (p.1.map kV))/\DC p.2 q.2.2) kvs xs/\
  ∃o es ep,h.get? a>o/\o.ExactDict/\o.data=.dict es ep/\es.toList=xs.map (entryOfKey (tupleKind (aD P w)))/\(xs.map (·.1)).Nodup
 |.set S n=>h.SetOf (intKind P w) a S n
 |.ins C dx fs=>H dx>(.own a)/\fs.length<=1000/\dx≠a/\h.get? a>(PySem.W.instObj C dx)/\
  ∃mA,h.Ns1 dx mA/\(∀f,ME (fs.lookup f) (mA f))/\PySem.Within mA (fs.map (·.1))
 |.own _=>∃o,h.get? a>o
 |.xd fs=>∃mA,h.Ns1 a mA/\∀f,ME (fs.lookup f) (mA f)
 |.rng lo hi=>∃t u v,h.get? a>{cls:=.type "range",data:=.fields #[.int lo t,.int hi u,.int 1 v]}
 |.frz o u=>h.get? a>o/\MC H h a u
 |.tbl ps=>h.get? a>{cls:=.none,data:=.fields ps}
 |.met f x=>h.get? a>(PySem.W.methodObj (.ref f) (.ref x))
 |.ext φ=>φ h/\(∃o,h.get? a>o)/\∀h1 h2:Heap,φ h1->(∀o,h1.get? a>o->h2.get? a>o)->φ h2
def qE (H:Hp) (h:Heap):Prop:=∀a o,H a>o->MC P w H h a o
end
section
variable {P:Program} {w:World} {H H':Hp} {h h':Heap} {a:Addr} {o:HO}
theorem MC.lt (x:MC P w H h a o):a < h.objs.size:=by
 cases o with
 |lst xs=>let(_,_,_,_,e):=x;show EA e
 |tup xs=>let(_,_,_,p):=x;show p.lt
 |dK j=>let(_,_,_,_,o,_,_,e,_):=x;show EA e
 |dT j=>let(_,_,_,_,o,_,_,e,_):=x;show EA e
 |set S n=>let(o,_,_,_,e,_):=x;show EA e
 |ins C q fs=>let(_,_,_,e,_):=x;show EA e
 |own y=>let(_,e):=x;show EA e
 |xd fs=>let(_,(_,_,_,e,_),_):=x;show EA e
 |rng lo D=>let(_,_,_,e):=x;show EA e
 |frz ob u=>let(e,_):=x;show EA e
 |tbl F=>show EA (show h.get? a>_ from x)
 |met f y=>show EA (show h.get? a>_ from x)
 |ext J=>let(_,(_,e),_):=x;show EA e
theorem Paired.mapP {α β:Type} {F G:α->β->Prop}:∀{l₁:!α} {l₂:!β},Paired F l₁ l₂->(∀a b,F a b->G a b)->Paired G l₁ l₂
 |_,_,.nil,_=>.nil
 |_,_,.cons r t,f=>.cons (f _ _ r) (Paired.mapP t f)
theorem MC.stay (x:MC P w H h a o) (k:∀b u,(b=a\/H b>(.own a))->h.get? b>u->h'.get? b>u)
  (Z:∀b,H b>(.own a)->H' b>(.own a)) (a0:∀b xs,H b>(.tup xs)->H' b>(.tup xs)):MC P w H' h' a o:=by
 induction o with
 |lst xs=>let(j,D,n,r,e):=x;show(j,D,n,r,k _ _ (.inl rfl) e)
 |tup xs=>let(j,D,r,ob,e,c):=x;show(j,D,r,ob,k _ _ (.inl rfl) e,c)
 |dK a2=>let(j,y,vs,r,ob,es,ep,e,c):=x;show(j,y,vs,r,ob,es,ep,k _ _ (.inl rfl) e,c)
 |dT a2=>
  let(j,y,xs,r,ob,es,ep,e,c):=x;show(j,y,xs,Paired.mapP r λp q j=>(j.1,a0 _ _ j.2.1,j.2.2),ob,es,ep,k _ _ (.inl rfl) e,c)
 |set S n=>let(ob,es,ep,t,e,c):=x;show(ob,es,ep,t,k _ _ (.inl rfl) e,c)
 |ins C a3 fs=>
  let(O,j,ne,e,F,(J,es,ep,W,c),r):=x;show(Z _ O,j,ne,k _ _ (.inl rfl) e,F,(J,es,ep,k _ _ (.inr O) W,c),r)
 |own y=>let(ob,e):=x;show⟨ob,k _ _ (.inl rfl) e⟩
 |xd fs=>let(F,(J,es,ep,e,c),r):=x;show(F,(J,es,ep,k _ _ (.inl rfl) e,c),r)
 |rng lo a4=>let(t,u,v,e):=x;show(t,u,v,k _ _ (.inl rfl) e)
 |frz ob u a1=>let(e,q):=x;show⟨k _ _ (.inl rfl) e,a1 q⟩
 |tbl U=>
  let e:h.get? a>{cls:=.none,data:=.fields U}:=x;change h'.get? a>{cls:=.none,data:=.fields U};show k a _ (.inl rfl) e
 |met f y=>
  let e:h.get? a>(PySem.W.methodObj (.ref f) (.ref y)):=x;change h'.get? a>(PySem.W.methodObj (.ref f) (.ref y));show k a _ (.inl rfl) e
 |ext a5=>let(p,(o,e),V):=x;show(V _ _ p λo q=>k _ _ (.inl rfl) q,⟨o,k _ _ (.inl rfl) e⟩,V)
theorem qE.lt (x:qE P w H h) (e:H a>o):a < h.objs.size:=(x a o e).lt
theorem qE.fresh (x:qE P w H h) (e:h.objs.size<=a):H a=none:=by
 cases q:H a with
 |none=>rfl
 |some u=>show absurd (OA (x.lt q) e) (kC _)
theorem qE.kept (x:qE P w H h) (k:∀b u,h.get? b>u->h'.get? b>u):qE P w H h':=λa o e=>
 (x a o e).stay (λb u ο q=>k b u q) (λο q=>q) λο ο q=>q
theorem qE.laid (x:qE P w H h) (k:∀b u,h.get? b>u->h'.get? b>u) (F:h.objs.size<=a) (new:MC P w (upd H a o) h' a o):qE P w (upd H a o) h':=λb u e=>by
 let D:=x.fresh F;by_cases j:b=a
 .subst j;rw[HC] at e;cases e;show new
 .rw[sC j] at e;show (x b u e).stay (λc v ο q=>k c v q) (λc q=>by rw[sC (mE q D)];show q) λc xs q=>by rw[sC (mE q D)];show q
end
def Rd (H:Hp) (a:Addr) (u:HO):Prop:=H a>u\/∃o,H a>(.frz o u)
theorem Rd.of {H:Hp} {a:Addr} {u:HO} (h:H a>u):Rd H a u:=.inl h
theorem Rd.ok {P:Program} {w:World} {H:Hp} {h:Heap} {a:Addr} {u:HO} (r:Rd H a u) (x:qE P w H h):MC P w H h a u:=by
 let r||(o,r):=r
 .show x a u r
 .let(_,q):=x a _ r;show q
def NM:Option HO->Prop
 |some (.lst _)=>True
 |some (.dK _)=>True
 |some (.dT _)=>True
 |some (.set _ _)=>True
 |some (.ins _ _ _)=>True
 |some (.ext _)=>True
 |_=>False
section
variable {P:Program} {w:World} {H:Hp} {h h':Heap} {x e:Addr} {o':HO}
theorem qE.write (ok:qE P w H h) (O:NM (H x)) (U:e=x\/H e>(.own x)) (k:∀b u,b≠e->h.get? b>u->h'.get? b>u) (W:∃u,h'.get? e>u)
  (new:MC P w (upd H x o') h' x o'):qE P w (upd H x o') h':=λb u q=>by
 let V:∀c y,H c>(.own y)->c≠x:=λc y r j=>by subst j;rw[r] at O;show O
 let a0:∀c xs,H c>(.tup xs)->c≠x:=λc xs r j=>by subst j;rw[r] at O;show O
 by_cases D:b=x
 .subst D;rw[HC] at q;cases q;show new
 .rw[sC D] at q;by_cases F:b=e
  .let q':H b>(.own x):=by
    let j||j:=U
    .show absurd (F.trans j) D
    .rw[F];show j
   rw[q] at q';cases q';let(v,Z):=W;show⟨v,by rw[F];show Z⟩
  .show (ok b u q).stay (λc v J r=>k c v ?_ r) (λc r=>by rw[sC (V c b r)];show r) λc xs r=>by rw[sC (a0 c xs r)];show r
   let rfl||J:=J
   .show F
   .rintro rfl;let j||j:=U
    .show V c b J j
    .rw[J] at j;cases j;show D rfl
end
structure Un (fs ex:!Addr) (H H':Hp) (h h':Heap):Prop where
 keep:∀b o,h.get? b>o->H b=none->b∉fs->b∉ex->h'.get? b>o
 slot:∀b o,h.get? b>o->H b=none->b∈fs->b∉ex->∃sl,h'.get? b>{o with slots:=sl}
 free:∀b o,h.get? b>o->H b=none->b∉ex->H' b=none
 there:∀b o,h.get? b>o->b∉ex->∃o',h'.get? b>o'
 tups:∀b xs,H b>(.tup xs)->H' b>(.tup xs)
 frzs:∀b o u,H b>(.frz o u)->H' b>(.frz o u)
 tbls:∀b ps,H b>(.tbl ps)->∃more,H' b>(.tbl (ps++more))
section
variable {fs fs' ex ex':!Addr} {H H1 H2:Hp} {h h1 h2 h':Heap} {a x e:Addr} {o:HO}
theorem Un.any (u:Un fs ex H H1 h h1) {b:Addr} {ob:Obj} (q:h.get? b>ob) (n:H b=none) (D:b∉ex):∃F,h1.get? b>{ob with slots:=F}:=by
 by_cases j:b∈fs
 .show u.slot b ob q n j D
 .show⟨ob.slots,u.keep b ob q n j D⟩
theorem Un.kept (k:∀b u,h.get? b>u->h'.get? b>u):Un fs ex H H h h':=
 (λb ob q ο ο ο=>k b ob q,λb ob q ο ο ο=>⟨ob.slots,k b ob q⟩,λο ο ο n ο=>n,λb ob q ο=>⟨ob,k b ob q⟩,λο ο q=>q,λο ο ο q=>q,λο j q=>⟨#[],by rw[q];simp⟩)
theorem Un.refl:Un fs ex H H h h:=Un.kept λο ο q=>q
theorem Un.laid (k:∀b u,h.get? b>u->h'.get? b>u) (D:h.objs.size<=a) (j:H a=none):Un fs ex H (upd H a o) h h' where
 keep:=λb u q ο ο ο=>k b u q
 slot:=λb u q ο ο ο=>⟨u.slots,k b u q⟩
 free:=λb u q n ο=>by rw[sC (SA (OA (EA q) D))];show n
 there:=λb u q ο=>⟨u,k b u q⟩
 tups:=λb xs q=>by rw[sC (mE q j)];show q
 frzs:=λb u xs q=>by rw[sC (mE q j)];show q
 tbls:=λb F q=>⟨#[],by rw[sC (mE q j),q];simp⟩
theorem Un.write (D:NM (H x)) (V:e=x\/H e>(.own x)) (k:∀b u,b≠e->h.get? b>u->h'.get? b>u) (W:∃u,h'.get? e>u):Un fs ex H (upd H x o) h h':=by
 let U:∀b,H b=none->b≠x:=λb n j=>by subst j;rw[n] at D;show D
 let J:∀b,H b=none->b≠e:=λb n j=>by
  subst j;let r||r:=V
  .show U b n r
  .rw[n] at r;cases r
 let F:∀b u,H b>u->¬NM (some u)->b≠x:=λb u q nm j=>by subst j;rw[q] at D;show nm D
 show(λb u q n ο ο=>k b u (J b n) q,λb u q n ο ο=>⟨u.slots,k b u (J b n) q⟩,λb u q n ο=>by rw[sC (U b n)];show n,λb u q ο=>?_,
  λb xs q=>by rw[sC (F b _ q λj=>j)];show q,λb u xs q=>by rw[sC (F b _ q λj=>j)];show q,λb Z q=>⟨#[],by rw[sC (F b _ q λj=>j),q];simp⟩)
 by_cases O:b=e
 .subst O;show W
 .show⟨u,k b u O q⟩
end
def trk (h:Heap) (H:Hp):!Addr:=(List.range h.objs.size).filter λa=>(H a).isSome
def fG (h:Heap) (H:Hp):Heap:=PySem.W.hideAll h (trk h H)
theorem eZ (h:Heap) (H:Hp):(fG h H).objs.size=h.objs.size:=PySem.W.hideAll_size _ _
theorem fZ {h:Heap} {H:Hp} {b:Addr} {o:Obj} (e:h.get? b>o) (n:H b=none):(fG h H).get? b>o:=
 PySem.W.hideAll_get _ e λj=>by
  let q:(H b).isSome=true:=(yB.mp j).2;rw[n] at q;simp at q
theorem gZ {h:Heap} {H:Hp} {b:Addr} {o:Obj} (e:(fG h H).get? b>o):h.get? b>o/\H b=none:=by
 let j:h.get? b>o:=PySem.W.of_hideAll (trk h H) e;show⟨j,?_⟩;cases q:H b with
 |none=>rfl
 |some x=>
  let D:b∈trk h H:=yB.mpr ⟨List.mem_range.mpr (EA j),by simp[q]⟩;let F:(fG h H).get? b=none:=PySem.W.hideAll_none (trk h H) D;rw[F] at e;cases e
def JI (g h:Heap) (L:Addr):!(Addr×Obj):=(List.range h.objs.size).filterMap λa=>if a=L\/(g.get? a).isSome=true then none else (h.get? a).map λo=>(a,o)
def rest (g h:Heap) (L d:Addr):!(Addr×Obj):=(JI g h L).filter λp=>decide (p.1≠d)
structure Mod (K:PySem.W.Frag) (mg:Str->Option Value) (base:Heap):Prop where
 kin:K.In base
 glob:base.Ns mainGlobals mg
 blt:∃mb,base.Ns builtinsNs mb/\∀x:Str,x≠"__name__"->mb x=bootBuiltins x
 nolimit:base.NoLimit
set_option genInjectivity false in
structure Cx where
 prog:Program
 w:World
 K:PySem.W.Frag
 mg:Str->Option Value
 base:Heap
 A:Around
 N:!Str
 s₀:Shared
 H₀:Hp
 env:Env
 outer:!Env
 stack:!Env
 ex:!Addr
 fn:Str->Bool
 calm:Bool
 pn:!(Addr×Obj)
 xe:Value->Shared->Prop
def aE (l:!Env):!Addr:=l.filterMap (·.frame)
abbrev Cx.fs (X:Cx):!Addr:=aE X.outer
def sQ (sc:Scope) (x:Str):Prop:=sc.names.lookup x>.local\/sc.names.lookup x>.cell\/sc.names.lookup x>.free
def bP (sc:Scope) (x:Str):Prop:=sc.names.lookup x>.local\/sc.names.lookup x>.cell
def tQ (env:Env) (h:Heap) (m:Str->Option Value) (x:Str) (u:Value):Prop:=
 (env.kindOf x>.local/\m x>u)\/((env.kindOf x>.cell\/env.kindOf x>.free)/\∃c,env.cells.lookup x>c/\h.IsCell c (some u))
structure Cx.Ok (X:Cx):Prop where
 mod:Mod X.K X.mg X.base
 kind:X.env.scope.kind=.function
 glob:X.env.globals=mainGlobals
 blt:X.env.builtins=builtinsNs
 above:X.s₀.heap.objs.size<=X.env.locals
 inj:∀x y c,X.env.cells.lookup x>c->X.env.cells.lookup y>c->x=y
 has:∀x,(X.env.kindOf x>.cell\/X.env.kindOf x>.free)->∃c,X.env.cells.lookup x>c
 cab:∀x c,X.fn x=true->X.env.cells.lookup x>c->X.s₀.heap.objs.size<=c
 hd:X.calm=true->X.A.handled=none
 frames:X.A.frames>X.stack
 stk:X.stack=X.outer\/(X.stack=X.env::X.outer/\X.env.frame>X.env.locals)
 exf:∀b∈X.ex,b≠X.env.locals/\∀x c,X.env.cells.lookup x>c->c≠b
 bs:∀b o,X.base.get? b>o->X.s₀.heap.get? b>o/\X.H₀ b=none
 bsz:X.base.objs.size<=X.s₀.heap.objs.size
 noex:∀b o,X.base.get? b>o->b∉X.ex
 exfs:∀b∈X.ex,b∉X.fs
 funs:X.s₀.heap.FunFrames X.base X.outer
 frf:∀b∈X.fs,X.H₀ b=none
structure vC (X:Cx) (pins:!(Addr×Obj)) (σ:!(Option V)) (H:Hp) (s:Shared):Prop where
 ok:X.Ok
 os:s.os=X.s₀.os
 bare:AllBare s.gens
 base:Un X.fs X.ex X.H₀ H X.s₀.heap s.heap
 loc:∃m,s.heap.Ns X.env.locals m/\∀(i:Nat) (x:Str) (v:V),X.N[i]?>x->σ[i]?>(some v)->sQ X.env.scope x->∃u,DC v u/\tQ X.env s.heap m x u
 cell:∀x c,X.env.cells.lookup x>c->∃v,s.heap.IsCell c v
 free:H X.env.locals=none
 freeC:∀x c,X.env.cells.lookup x>c->H c=none
 pin:∀p∈X.pn++pins,s.heap.get? p.1>p.2/\H p.1=none/\p.1≠X.env.locals/\p.1∉X.fs/\∀v,p.2.data≠.cell v
 hok:qE X.prog X.w H s.heap
 len:σ.length=X.N.length
section
variable {X:Cx} {pins:!(Addr×Obj)} {σ:!(Option V)} {H H':Hp} {s:Shared} {h':Heap}
theorem Cx.Ok.nofr (ok:X.Ok) {b:Addr} {o:Obj} (e:X.base.get? b>o):b∉X.fs:=λj=>by
 have:=(ok.funs.mem j).1;rw[e] at this;cases this
theorem vC.bs (I:vC X pins σ H s):∀b o,X.base.get? b>o->s.heap.get? b>o/\H b=none:=λb o e=>
 ⟨I.base.keep b o (I.ok.bs b o e).1 (I.ok.bs b o e).2 (I.ok.nofr e) (I.ok.noex b o e),I.base.free b o (I.ok.bs b o e).1 (I.ok.bs b o e).2 (I.ok.noex b o e)⟩
theorem vC.bk (I:vC X pins σ H s):∀b o,X.base.get? b>o->s.heap.get? b>o:=λb o e=>(I.bs b o e).1
theorem vC.mod (I:vC X pins σ H s):Mod X.K X.mg X.base:=I.ok.mod
theorem vC.kIn (I:vC X pins σ H s):X.K.In s.heap:=I.ok.mod.kin.keeps I.bk
theorem vC.lt (I:vC X pins σ H s):X.env.locals < s.heap.objs.size:=let ⟨_,hn,_⟩:=I.loc;hn.lt
theorem vC.sz (I:vC X pins σ H s):X.s₀.heap.objs.size<=s.heap.objs.size:=kB I.ok.above (Nat.le_of_lt I.lt)
theorem vC.nofs (j:vC X pins σ H s) {a:Addr} (h:s.heap.objs.size<=a):a∉X.fs:=λq=>by
 let(_,o,D,_):=j.ok.funs.mem q;show absurd (OA (EA D) (kB j.sz h)) (kC _)
theorem vC.cne (j:vC X pins σ H s):∀x c,X.env.cells.lookup x>c->c≠X.env.locals:=λx c e J=>by
 let(v,o,q,hd):=j.cell x c e;let(m,(O,es,ep,F,D,_),_):=j.loc;rw[J,F] at q;cases q;rw[D] at hd;cases hd
theorem vC.funs (q:vC X pins σ H s):s.heap.FunFrames X.base X.outer:=by
 let all:∀(l:!Env),(∀b∈aE l,b∈X.fs)->X.s₀.heap.FunFrames X.base l->s.heap.FunFrames X.base l:=by
  intro l
  induction l with
  |nil=>intro _ _;trivial
  |cons a3 r a1=>
   intro O V;let(U,(j,o,J,W,Z,hd),a0):=V;let D:j∈X.fs:=O j (by unfold aE;rw[List.filterMap_cons,J];show wA);let(a4,e):=q.base.slot j o Z (q.ok.frf j D) D λa2=>q.ok.exfs j a2 D;show(U,(j,_,J,W,e,hd),a1 (λb F=>O b (by unfold aE;rw[List.filterMap_cons,J];show kA _ F)) a0)
 show all X.outer (λο F=>F) q.ok.funs
theorem vC.stack (j:vC X pins σ H s):s.heap.FunFrames X.base X.stack:=by
 let e||(e,q):=j.ok.stk
 .rw[e];show j.funs
 .rw[e];let(m,D,_):=j.loc;show .cons (by rw[j.ok.kind];decide) q D ?_ j.funs;show Heap.get?_none_of_le (kB j.ok.bsz j.ok.above)
theorem vC.stkSub (q:vC X pins σ H s):∀b∈aE X.stack,b∈X.env.locals::X.fs:=λb j=>by
 let e||(e,D):=q.ok.stk
 .rw[e] at j;show kA _ j
 .rw[e] at j;unfold aE at j;rw[List.filterMap_cons,D] at j;show j
theorem vC.stkFree (j:vC X pins σ H s):∀b∈aE X.stack,H b=none:=λb q=>by
 let e||q:=xA.mp (j.stkSub b q)
 .rw[e];show j.free
 .let(_,o,D,_):=j.ok.funs.mem q;show j.base.free b o D (j.ok.frf b q) λF=>j.ok.exfs b F q
theorem vC.step {g':Array GenState} {t':Nat} {d':Drawn} {ch:!Addr} (j:vC X pins σ H s)
  (W:∀b∈ch,(b∈X.ex\/X.s₀.heap.objs.size<=b)/\b≠X.env.locals/\(∀x c,X.env.cells.lookup x>c->c≠b)/\∀p∈X.pn++pins,p.1≠b)
  (keep:∀b o,b≠X.env.locals->b∉X.fs->b∉ch->s.heap.get? b>o->H b=none->h'.get? b>o)
  (slot:∀b o,b≠X.env.locals->b∈X.fs->b∉ch->s.heap.get? b>o->H b=none->∃a3,h'.get? b>{o with slots:=a3}) (free:∀b o,b∉ch->s.heap.get? b>o->H b=none->H' b=none)
  (ak:∀b o,b∉ch->s.heap.get? b>o->∃a0,h'.get? b>a0)
  (al:∀b xs,H b>(.tup xs)->H' b>(.tup xs)) (aa:∀b o u,H b>(.frz o u)->H' b>(.frz o u)) (aj:∀b a2,H b>(.tbl a2)->∃ah,H' b>(.tbl (a2++ah)))
  (ns:∀m,s.heap.Ns X.env.locals m->h'.Ns X.env.locals m) (ae:qE X.prog X.w H' h') (ab:AllBare g'):
  vC X pins σ H' {s with heap:=h',gens:=g',drawn:=d',toks:=t'}:=by
 let a7:∀b o,X.s₀.heap.get? b>o->b≠X.env.locals:=λb o e=>SA (OA (EA e) j.ok.above);let a1:∀b o,X.s₀.heap.get? b>o->b∉X.ex->b∉ch:=λb o e D O=>by
  let F||F:=(W b O).1
  .show D F
  .show absurd (OA (EA e) F) (kC _)
 let a4:∀x c,X.env.cells.lookup x>c->∀v,s.heap.IsCell c v->h'.IsCell c v:=λx c e v ⟨o,U,hd⟩=>by
  let Z:c∉ch:=λF=>(W c F).2.2.1 x c e rfl;by_cases a5:c∈X.fs
  .let(a3,q):=slot c o (j.cne x c e) a5 Z U (j.freeC x c e);show(_,q,hd)
  .show(o,keep c o (j.cne x c e) a5 Z U (j.freeC x c e),hd)
 show(j.ok,j.os,ab,(λb o e n O D=>?_,λb o e n O D=>?_,λb o e n D=>?_,λb o e D=>?_,λb xs e=>al b xs (j.base.tups b xs e),λb o xs e=>aa b o xs (j.base.frzs b o xs e),λb a2 e=>?_),?_,λx c e=>?_,?_,λx c e=>?_,λp a6=>?_,ae,j.len)
 .show keep b o (a7 b o e) O (a1 b o e D) (j.base.keep b o e n O D) (j.base.free b o e n D)
 .let(a3,J):=j.base.slot b o e n O D;let(ai,V):=slot b _ (a7 b o e) O (a1 b o e D) J (j.base.free b o e n D);show⟨ai,V⟩
 .let(a0,J):=j.base.there b o e D;show free b a0 (a1 b o e D) J (j.base.free b o e n D)
 .let(a0,J):=j.base.there b o e D;show ak b a0 (a1 b o e D) J
 .let(af,J):=j.base.tbls b a2 e;let(ag,V):=aj b _ J;show⟨af++ag,by rw[V,Array.append_assoc]⟩
 .let(m,ad,ac):=j.loc;show(m,ns m ad,λi x v J V a9=>?_);let(u,r,l):=ac i x v J V a9;show(u,r,?_);let l||(k,c,e,F):=l
  .show .inl l
  .show .inr (k,c,e,a4 x c e _ F)
 .let(v,F):=j.cell x c e;show⟨v,a4 x c e v F⟩
 .let(m,(o,_,_,U,_),_):=j.loc;show free _ o (λF=>(W _ F).2.1 rfl) U j.free
 .let(v,o,U,hd):=j.cell x c e;show free c o (λF=>(W c F).2.2.1 x c e rfl) U (j.freeC x c e)
 .let(e,n,ne,nf,a8):=j.pin p a6;let Z:p.1∉ch:=λF=>(W p.1 F).2.2.2 p a6 rfl;show(keep p.1 p.2 ne nf Z e n,free p.1 p.2 Z e n,ne,nf,a8)
theorem vC.un {t':Nat} (j:vC X pins σ H s) (u:Un X.fs [] H H' s.heap h') (W:qE X.prog X.w H' h'):vC X pins σ H' {s with heap:=h',toks:=t'}:=by
 let(m,(o,es,ep,D,r),_):=id j.loc;let(a1,U):=u.any D j.free (by simp);show j.step (g':=s.gens) (d':=s.drawn) (ch:=[]) (λο Z=>nomatch Z) (λb o ο q ο e n=>u.keep b o e n q (by simp)) (λb o ο q ο e n=>u.slot b o e n q (by simp)) (λb o ο e n=>u.free b o e n (by simp)) (λb o ο e=>u.there b o e (by simp)) u.tups u.frzs u.tbls (λm' V=>by
  let(a0,O,J,F,r'):=V;rw[D] at F;cases F;show(_,O,J,U,r')) W j.bare
theorem vC.call {g':Array GenState} {t':Nat} {d':Drawn} {ch:!Addr} (q:vC X pins σ H s) (u:Un (aE X.stack) ch H H' s.heap h') (a2:qE X.prog X.w H' h') (a0:AllBare g')
  (J:∀b∈ch,(b∈X.ex\/X.s₀.heap.objs.size<=b)/\b≠X.env.locals/\(∀x c,X.env.cells.lookup x>c->c≠b)/\∀p∈X.pn++pins,p.1≠b):
  vC X pins σ H' {s with heap:=h',gens:=g',drawn:=d',toks:=t'}:=by
 let(m,(o,es,ep,O,r),_):=id q.loc;let(a4,D):=u.any O q.free λF=>(J _ F).2.1 rfl;show q.step (ch:=ch) J (λb o D Z j e n=>u.keep b o e n (λF=>(xA.mp (q.stkSub b F)).elim D Z) j) (λb o ο ο j e n=>u.any e n j) (λb o j e n=>u.free b o e n j) (λb o j e=>u.there b o e j) u.tups u.frzs u.tbls (λm' a1=>by
  let(a3,W,V,U,r'):=a1;rw[O] at U;cases U;show(_,W,V,D,r')) a2 a0
theorem vC.turned {t':Nat} {it:Addr} (F:vC X pins σ H s) (k:∀b o,b≠it->s.heap.get? b>o->h'.get? b>o) (a1:H it=none) (J:it≠X.env.locals)
  (U:it∈X.ex\/X.s₀.heap.objs.size<=it) (V:∀x c,X.env.cells.lookup x>c->c≠it) (W:∀p∈X.pn++pins,p.1≠it):vC X pins σ H {s with heap:=h',toks:=t'}:=by
 let O:∀b u,H b>u->b≠it:=λb u e j=>by rw[j,a1] at e;cases e
 show F.step (g':=s.gens) (d':=s.drawn) (ch:=[it]) (λb Z=>?_) (λb o ο ο D e ο=>k b o (λj=>D (by simp[j])) e) (λb o ο ο D e ο=>⟨o.slots,k b o (λj=>D (by simp[j])) e⟩) (λο ο ο ο n=>n)
  (λb o D e=>⟨o,k b o (λj=>D (by simp[j])) e⟩) (λο ο e=>e) (λο ο ο e=>e) (λb a3 e=>⟨#[],by rw[e];simp⟩) (λm a0=>?_) (λb u e=>?_) F.bare
 .let e:b=it:=by simpa using Z
  subst e;show(U,J,V,W)
 .let(o,es,ep,a2,r):=a0;show(o,es,ep,k _ o (Ne.symm J) a2,r)
 .show (F.hok b u e).stay (λc v D q=>k c v ?_ q) (λο q=>q) λο ο q=>q;let j||j:=D
  .rw[j];show O b u e
  .show O c _ j
theorem vC.tok (I:vC X pins σ H s) (t:Nat):vC X pins σ H {s with toks:=t}:=I.un (h':=s.heap) (t':=t) Un.refl I.hok
theorem vC.kept {t':Nat} (I:vC X pins σ H s) (k:∀b u,s.heap.get? b>u->h'.get? b>u):vC X pins σ H {s with heap:=h',toks:=t'}:=I.un (Un.kept k) (I.hok.kept k)
theorem vC.laid {a:Addr} {o:HO} {t':Nat} (j:vC X pins σ H s) (k:∀b u,s.heap.get? b>u->h'.get? b>u) (q:s.heap.objs.size<=a) (new:MC X.prog X.w (upd H a o) h' a o):
 vC X pins σ (upd H a o) {s with heap:=h',toks:=t'}:=j.un (Un.laid k q (j.hok.fresh q)) (j.hok.laid k q new)
theorem vC.write {x e:Addr} {o:HO} {t':Nat} (j:vC X pins σ H s) (F:NM (H x)) (q:e=x\/H e>(.own x)) (k:∀b u,b≠e->s.heap.get? b>u->h'.get? b>u) (D:∃u,h'.get? e>u)
 (new:MC X.prog X.w (upd H x o) h' x o):vC X pins σ (upd H x o) {s with heap:=h',toks:=t'}:=j.un (Un.write F q k D) (j.hok.write F q k D new)
theorem vC.pins_of {q:!(Addr×Obj)} (j:vC X pins σ H s) (h:∀p∈q,s.heap.get? p.1>p.2/\H p.1=none/\p.1≠X.env.locals/\p.1∉X.fs/\∀v,p.2.data≠.cell v):vC X q σ H s:=
 (j.ok,j.os,j.bare,j.base,j.loc,j.cell,j.free,j.freeC,λp D=>(UA.mp D).elim (λF=>j.pin p (xB _ F)) (h p),j.hok,j.len)
theorem FV {N:!Str} (F:N.Nodup) {i j:Nat} {x:Str} (a:N[i]?>x) (b:N[j]?>x):i=j:=by
 let(J,q):=aA.mp a;let(O,D):=aA.mp b;show (List.getElem_inj F).mp (q.trans D.symm)
theorem GV {M:Model} {A:Around} {E:Value->Shared->Prop} {i:Nat} {x:Str} {v:V} {u:Value} {Q:Unit->Shared->Prop} (D:vC X pins σ H s) (af:X.N.Nodup) (a3:X.N[i]?>x) (U:bP X.env.scope x) (r:DC v u)
  (h:∀s',vC X pins (σ.set i (some v)) H s'->(∃a,Heap.SameBut a s.heap s'.heap/\(a=X.env.locals\/X.env.cells.lookup x>a))->Q ⟨⟩ s') (ar:X.fn x=true\/X.env.scope.names.lookup x>.local:=by first|exact .inl rfl|exact .inr rfl|assumption):wpAny M A (storeName X.env x u) Q E s:=by
 let(m,a9,ak):=id D.loc;let aq:(X.env.scope.kind == .class || (X.env.scope.kind == .module&&X.env.locals != X.env.globals))=false:=by rw[D.ok.kind];rfl
 let aj:i < σ.length:=by rw[D.len];show (aA.mp a3).1
 let cne:=D.cne;let ao:∀{a:Addr} {h':Heap},(∃o,s.heap.get? a>o/\H a=none)->Heap.SameBut a s.heap h'->qE X.prog X.w H h':=λ{a h'} ap F b ob e=>by
  let(_,_,ai):=ap;show (D.hok b ob e).stay (λc a6 O q=>(F.2 c ?_).trans q) (λο q=>q) λο ο q=>q;rintro rfl;let rfl||O:=O
  .rw[ai] at e;cases e
  .rw[ai] at O;cases O
 let a0||a0:=U
 .show wpAny_storeName_local a0 a9 (λh' au F=>?_) aq;let(ax,_,_,av,_):=id a9;show h _ (D.ok,D.os,D.bare,(λb o e n a1 U=>?_,λb o e n a1 U=>?_,D.base.free,λb o e U=>?_,D.base.tups,D.base.frzs,D.base.tbls),(_,au,λj y ae J Z a7=>?_),λy c e=>?_,D.free,D.freeC,λp aa=>?_,ao (ax,av,D.free) F,by simpa using D.len) (_,F,.inl rfl)
  .show (F.2 b (SA (OA (EA e) D.ok.above))).trans (D.base.keep b o e n a1 U)
  .let(ac,J):=D.base.slot b o e n a1 U;show⟨ac,(F.2 b (SA (OA (EA e) D.ok.above))).trans J⟩
  .let(ab,J):=D.base.there b o e U;show⟨ab,(F.2 b (SA (OA (EA e) D.ok.above))).trans J⟩
  .by_cases a2:j=i
   .subst a2;rw[a3] at J;cases J;rw[yA aj] at Z;cases Z;show(u,r,.inl ⟨a0,by simp⟩)
   .rw[List.getElem?_set_ne (Ne.symm a2)] at Z;let(ad,r',q):=ak j y ae J Z a7;show(ad,r',?_);let(k,e)||(k,c,e,W):=q
    .show .inl ⟨k,?_⟩;have:y≠x:=λe=>a2 (FV af J (e ▸ a3));simp[this,e]
    .show .inr (k,c,e,W.sameBut F (cne y c e))
  .let(a6,W):=D.cell y c e;show⟨a6,W.sameBut F (cne y c e)⟩
  .let(e,n,ne,nf,a5):=D.pin p aa;show((F.2 p.1 ne).trans e,n,ne,nf,a5)
 .let a8:X.fn x=true:=by
   let W||W:=ar
   .show W
   .rw[W] at a0;cases a0
  let(c,O):=D.ok.has x (.inl a0);let(a6,W):=D.cell x c O;show wpAny_storeName_cell D.ok.kind a0 O W (λh' ag F=>?_);let(am,al,aw):=id W;show h {s with heap:=h'} (D.ok,D.os,D.bare,(λb o e n a1 U=>?_,λb o e n a1 U=>?_,D.base.free,λb o e U=>?_,D.base.tups,D.base.frzs,D.base.tbls),(m,a9.sameBut F (Ne.symm (cne x c O)),λj y ae J Z a7=>?_),λy a4 e=>?_,D.free,D.freeC,λp aa=>?_,ao (am,al,D.freeC x c O) F,by simpa using D.len) (c,F,.inr O)
  .show (F.2 b (SA (OA (EA e) (D.ok.cab x c a8 O)))).trans (D.base.keep b o e n a1 U)
  .let(ac,J):=D.base.slot b o e n a1 U;show⟨ac,(F.2 b (SA (OA (EA e) (D.ok.cab x c a8 O)))).trans J⟩
  .let(ab,J):=D.base.there b o e U;show⟨ab,(F.2 b (SA (OA (EA e) (D.ok.cab x c a8 O)))).trans J⟩
  .by_cases a2:j=i
   .subst a2;rw[a3] at J;cases J;rw[yA aj] at Z;cases Z;show(u,r,.inr (.inl a0,c,O,ag))
   .rw[List.getElem?_set_ne (Ne.symm a2)] at Z;let(ad,r',q):=ak j y ae J Z a7;show(ad,r',?_);let q||(k,a4,e,az):=q
    .show .inl q
    .show .inr (k,a4,e,az.sameBut F ?_);rintro rfl;show a2 (FV af J (D.ok.inj _ _ _ e O ▸ a3))
  .by_cases ah:a4=c
   .subst ah;show⟨_,ag⟩
   .let(ay,z2):=D.cell y a4 e;show⟨ay,z2.sameBut F ah⟩
  .let(e,n,ne,nf,a5):=D.pin p aa;show((F.2 p.1 ?_).trans e,n,ne,nf,a5);intro q;rw[q,al] at e;let q':am=p.2:=bA e;show a5 a6 (by rw[<-q'];show aw)
theorem HV {M:Model} {A:Around} {E:Value->Shared->Prop} {i:Nat} {x:Str} {v:V} {u:Value} {Q:Unit->Shared->Prop} (j:vC X pins σ H s) (D:X.N.Nodup) (J:X.N[i]?>x) (O:bP X.env.scope x) (r:DC v u)
  (h:∀s',vC X pins (σ.set i (some v)) H s'->Q ⟨⟩ s') (F:X.fn x=true\/X.env.scope.names.lookup x>.local:=by first|exact .inl rfl|exact .inr rfl|assumption):wpAny M A (storeName X.env x u) Q E s:=
 GV j D J O r (λs' q ο=>h s' q) F
theorem vC.call' {s':Shared} {ch:!Addr} (j:vC X pins σ H s) (F:s'.os=s.os) (u:Un (aE X.stack) ch H H' s.heap s'.heap) (J:qE X.prog X.w H' s'.heap) (D:AllBare s'.gens)
  (q:∀b∈ch,(b∈X.ex\/X.s₀.heap.objs.size<=b)/\b≠X.env.locals/\(∀x c,X.env.cells.lookup x>c->c≠b)/\∀p∈X.pn++pins,p.1≠b):vC X pins σ H' s':=by
 let(h',g',d',t',O):=s';let e:O=s.os:=F;subst e;show j.call (g':=g') (t':=t') (d':=d') u J D q
end
abbrev XK:=Value->Option Addr->Hp->Prop
abbrev St:=!(Option V)
abbrev VK:=V->Hp->Prop
abbrev TE:=St->Hp->VK->Prop
abbrev TT:=St->Hp->(Bool->Hp->Prop)->Prop
abbrev TA:=St->Hp->(!V->Hp->Prop)->Prop
set_option genInjectivity false in
structure NE where
 nx:St->Hp->Prop
 rt:VK
 bk:St->Hp->Prop:=λο ο=>False
 ct:St->Hp->Prop:=λο ο=>False
abbrev TS:=NE->St->Hp->Prop
def EP (X:Cx) (pins:!(Addr×Obj)) (σ:St) (Q:VK) (u:Value) (s':Shared):Prop:=∃v H',vC X pins σ H' s'/\DC v u/\Q v H'
def TP (X:Cx) (pins:!(Addr×Obj)) (σ:St) (Q:Bool->Hp->Prop) (b:Bool) (s':Shared):Prop:=∃H',vC X pins σ H' s'/\Q b H'
def AP (X:Cx) (pins:!(Addr×Obj)) (σ:St) (Q:!V->Hp->Prop) (us:!Value) (s':Shared):Prop:=∃vs H',vC X pins σ H' s'/\zC vs us/\Q vs H'
def SP (X:Cx) (pins:!(Addr×Obj)) (D:NE) (f:Flow) (s':Shared):Prop:=
 match f with
 |.next=>∃σ' H',vC X pins σ' H' s'/\D.nx σ' H'
 |.brk=>∃σ' H',vC X pins σ' H' s'/\D.bk σ' H'
 |.cont=>∃σ' H',vC X pins σ' H' s'/\D.ct σ' H'
 |.ret u=>∃v σ' H',vC X pins σ' H' s'/\DC v u/\D.rt v H'
def PE (X:Cx) (e:Expr) (t:TE):Prop:=
 ∀(pins:!(Addr×Obj)) (s:Shared) (σ:St) (H:Hp) (Q:VK),vC X pins σ H s->t σ H Q->wpAny (model X.prog X.w) X.A (eval e X.env) (EP X pins σ Q) X.xe s
def PT (X:Cx) (e:Expr) (t:TT):Prop:=
 ∀(pins:!(Addr×Obj)) (s:Shared) (σ:St) (H:Hp) (Q:Bool->Hp->Prop),vC X pins σ H s->t σ H Q->wpAny (model X.prog X.w) X.A (isTrue e X.env (eval e X.env)) (TP X pins σ Q) X.xe s
def PW (X:Cx) (e:Expr) (t:TT):Prop:=
 ∀(CG:Sem Value) (pins:!(Addr×Obj)) (s:Shared) (σ:St) (H:Hp) (Q:Bool->Hp->Prop),vC X pins σ H s->t σ H Q->wpAny (model X.prog X.w) X.A (isTrue e X.env CG) (TP X pins σ Q) X.xe s
theorem PW.pt {X:Cx} {e:Expr} {t:TT} (h:PW X e t):PT X e t:=h _
def PA (X:Cx) (es:!Expr) (t:TA):Prop:=
 ∀(pos:Pos) (pins:!(Addr×Obj)) (s:Shared) (σ:St) (H:Hp) (Q:!V->Hp->Prop),vC X pins σ H s->t σ H Q->wpAny (model X.prog X.w) X.A (spliced (backTo pos (starEach es X.env))) (AP X pins σ Q) X.xe s
def PS (X:Cx) (st:Stmt) (t:TS):Prop:=
 ∀(pins:!(Addr×Obj)) (s:Shared) (σ:St) (H:Hp) (D:NE),vC X pins σ H s->t D σ H->wpAny (model X.prog X.w) X.A (exec st X.env) (SP X pins D) X.xe s
def SF (X:Cx) (st:!Stmt) (t:TS):Prop:=
 ∀(pins:!(Addr×Obj)) (s:Shared) (σ:St) (H:Hp) (D:NE),vC X pins σ H s->t D σ H->wpAny (model X.prog X.w) X.A (execs st X.env) (SP X pins D) X.xe s
theorem cD {q:Type} {t:Sem q} {Q j:q->Shared->Prop} {M:Model} {A:Around} {E:Value->Shared->Prop} {s:Shared} (h:wpAny M A t Q E s) (D:∀a s,Q a s->j a s):wpAny M A t j E s:=FB h D λο ο x=>x
section
variable {X:Cx}
def sK (i:Nat):TE:=λσ H Q=>∃v,σ[i]?>(some v)/\Q v H
def tC (v:V):TE:=λο H Q=>Q v H
theorem tK {i:Nat} {x:Str} {a1:Pos} (J:X.N[i]?>x) (Z:sQ X.env.scope x) (hd:(x == ("__debug__":Str))=false:=by decide) (O:(x == ("__classdict__":Str))=false:=by decide):PE X (.Name x a1) (sK i):=by
 intro a0 s a2 H Q q h;let(v,e,h):=h;let(m,W,U):=q.loc;let(u,r,l):=U i x v J e Z;let fin:EP X a0 a2 Q u s:=(v,H,q,r,h)
 let(j,V)||(j,c,D,F):=l
 .show wpAny_Name (wpAny_loadName_local q.ok.kind j W V fin) hd
 .let j||j:=j
  .show wpAny_Name (wpAny_loadName_cell q.ok.kind j D F fin) hd
  .show wpAny_Name (wpAny_loadName_free q.ok.kind j D F fin O) hd
theorem yC {i j pos}:PE X (.Constant (.int i) j pos) (tC (.int i)):=λο ο ο H ο I h=>wpAny_Constant_int (.int i,H,I.tok _,⟨_,rfl⟩,h)
theorem NG {b j pos}:PE X (.Constant (.bool b) j pos) (tC (.bl b)):=λο ο ο H ο I h=>Constant_bool (.bl b,H,I,rfl,h)
theorem BD {j pos}:PE X (.Constant .none j pos) (tC .non):=λο ο ο H ο I h=>Constant_none (.non,H,I,rfl,h)
theorem wE {x j pos}:PE X (.Constant (.str x) j pos) (tC (.str x)):=λο ο ο H ο I h=>Calls.Constant_str (.str x,H,I.tok _,⟨_,rfl⟩,h)
def Gl (X:Cx) (x:Str):Prop:=X.env.kindOf x>.globalImplicit
theorem cP {E:Value->Shared->Prop} {F:!(Addr×Obj)} {s:Shared} {O:St} {H:Hp} {x:Str} {u:Value} {J:Pos} {Q:Value->Shared->Prop} (j:vC X F O H s) (q:Gl X x) (D:X.mg x>u) (h:Q u s)
  (hd:(x == ("__debug__":Str))=false:=by decide):wpAny (model X.prog X.w) X.A (eval (.Name x J) X.env) Q E s:=
 Calls.Name_function_global j.ok.kind q (Calls.loadGlobal_global (by rw[j.ok.glob];show j.mod.glob.keeps j.bk) D h) hd
theorem OM {E:Value->Shared->Prop} {V:!(Addr×Obj)} {s:Shared} {Z:St} {H:Hp} {x:Str} {u:Value} {W:Pos} {Q:Value->Shared->Prop} (j:vC X V Z H s) (F:Gl X x) (J:X.mg x=none) (U:bootBuiltins x>u) (h:Q u s)
  (O:x≠"__name__":=by decide) (hd:(x == ("__debug__":Str))=false:=by decide):wpAny (model X.prog X.w) X.A (eval (.Name x W) X.env) Q E s:=by
 let(a0,q,D):=j.mod.blt;show Calls.Name_function_global j.ok.kind F (Calls.loadGlobal_builtin (by rw[j.ok.glob];show j.mod.glob.keeps j.bk) J (by rw[j.ok.blt];show q.keeps j.bk) ((D x O).trans U) h) hd
theorem hZ {x:Str} {v:V} {u:Value} {O:Pos} (q:Gl X x) (D:X.mg x=none) (J:bootBuiltins x>u) (r:DC v u) (F:x≠"__name__":=by decide) (hd:(x == ("__debug__":Str))=false:=by decide):PE X (.Name x O) (tC v):=
 λο ο ο H ο j h=>OM j q D J (v,H,j,r,h) F hd
variable {a b:Expr} {ta tb:TE} {pos:Pos}
def PC (X:Cx) (op:CmpOp) (a b:Expr) (t:TE):Prop:=
 ∀(pins:!(Addr×Obj)) (s:Shared) (σ:St) (H:Hp) (Q:VK),vC X pins σ H s->t σ H Q->
  wpAny (model X.prog X.w) X.A (eval a X.env) (λv s₁=>wpAny (model X.prog X.w) X.A (eval b X.env) (λu s₂=>wpAny (model X.prog X.w) X.A (compareOp op v u) (EP X pins σ Q) X.xe s₂) X.xe s₁) X.xe s
def tB (t:TE):TT:=λσ H Q=>t σ H λx H1=>∃c,x=.bl c/\Q c H1
theorem gG {e:Expr} {t:TE} (h:PE X e t) (J:∀CG,isTrue e X.env CG=(do let v<-CG;standAt e.pos;holding [v] (truthy v)):=by intro _;rfl):PT X e (tB t):=by
 intro U s Z H Q D O;show isTrue_plain (cD (h U s Z H _ D O) λv s1 ⟨x,j,F,W,V⟩=>?_) (J _);let(a0,rfl,q):=V;cases W;show wpAny_truthy_bool (j,F,q)
variable {tA tB':TT} {rest:!Expr}
def PM (t u:TT):TT:=λσ H Q=>t σ H λc H1=>if c=true then u σ H1 Q else Q false H1
def IV (t u:TT):TT:=λσ H Q=>t σ H λc H1=>if c=true then Q true H1 else u σ H1 Q
def QM (t:TT):TT:=λσ H Q=>t σ H λc H1=>Q (not c) H1
theorem tH (q:PT X a tA):PW X (.BoolOp .And [a] pos) tA:=by
 intro J D s F H Q j h;show isTrue_and (cD (q D s F H Q j h) λc s1 e=>?_);cases c with
 |true=>show isTrue_and_nil e
 |false=>show e
theorem RM (q:PT X a tA):PW X (.BoolOp .Or [a] pos) tA:=by
 intro J D s F H Q j h;show isTrue_or (cD (q D s F H Q j h) λc s1 e=>?_);cases c with
 |false=>show isTrue_or_nil e
 |true=>show e
theorem uH (U:PT X a tA) (V:PW X (.BoolOp .And (b::rest) pos) tB'):PW X (.BoolOp .And (a::b::rest) pos) (PM tA tB'):=by
 intro W D s J H Q O h;show isTrue_and (cD (U D s J H _ O h) λc s1 Z=>?_);let(j,q,F):=Z;cases c with
 |true=>show V W D s1 J j Q q F
 |false=>show(j,q,F)
theorem SM (U:PT X a tA) (V:PW X (.BoolOp .Or (b::rest) pos) tB'):PW X (.BoolOp .Or (a::b::rest) pos) (IV tA tB'):=by
 intro W D s J H Q O h;show isTrue_or (cD (U D s J H _ O h) λc s1 Z=>?_);let(j,q,F):=Z;cases c with
 |true=>show(j,q,F)
 |false=>show V W D s1 J j Q q F
theorem yI (D:PT X a tA):PT X (.UnaryOp .Not a pos) (QM tA):=by
 intro F s J H Q q h;show isTrue_not (D F s J H (λc j=>Q (not c) j) q h)
def hJ (ta tb:TE):TE:=λσ H Q=>ta σ H λx H1=>∃c,x=.bl c/\if c=true then tb σ H1 Q else Q (.bl false) H1
def iJ (ta:TE):TE:=λσ H Q=>ta σ H λx H1=>∃c,x=.bl c/\Q (.bl (not c)) H1
theorem dP {op} {t:TE} (h:PE X a t):PE X (.BoolOp op [a] pos) t:=λD s F H Q j q=>BoolOp_one (h D s F H Q j q)
theorem TM (U:PE X a ta) (V:PE X (.BoolOp .And (b::rest) pos) tb):PE X (.BoolOp .And (a::b::rest) pos) (hJ ta tb):=by
 intro F s J H Q O h;show BoolOp_and (cD (U F s J H _ O h) λv s1 Z=>?_);let(x,q,D,W,j):=Z;let(c,rfl,j):=j;cases W;show wpAny_truthy_bool ?_;cases c with
 |true=>show V F s1 J q Q D j
 |false=>show(.bl false,q,D,rfl,j)
theorem uK (J:PE X a ta):PE X (.UnaryOp .Not a pos) (iJ ta):=by
 intro O s W H Q D h;show UnaryOp_ (cD (J O s W H _ D h) λv s1 V=>?_);let(x,q,F,U,j):=V;let(c,rfl,j):=j;cases U;show not_of (wpAny_truthy_bool (.bl (not c),q,F,rfl,j))
def JV (t:TT) (ta tb:TE):TE:=λσ H Q=>t σ H λc H1=>if c=true then ta σ H1 Q else tb σ H1 Q
theorem eP {c:Expr} (Z:PT X c tA) (V:PE X a ta) (W:PE X b tb):PE X (.IfExp c a b pos) (JV tA ta tb):=by
 intro j s q H Q O h;show wpAny_IfExp (cD (Z j s q H _ O h) λU s1 a0=>?_);let(D,F,J):=a0;cases U with
 |true=>show V j s1 q D Q F J
 |false=>show W j s1 q D Q F J
end
def uC (K:PySem.W.Frag) (H:Hp) (a:Addr) (xs:!V):Prop:=
 Rd H a (.lst xs)\/
  ∃(o:Obj) (its:Array Value) (n:Nat),K.lookup a>o/\o.cls=.type "list"/\o.dict=none/\o.data=.seq its n/\its.size<=sizeLine/\zC xs its.toList
def VC (K:PySem.W.Frag) (H:Hp) (a:Addr) (xs:!V):Prop:=
 Rd H a (.tup xs)\/
  ∃(o:Obj) (its:Array Value) (n:Nat),K.lookup a>o/\o.cls=.type "tuple"/\o.data=.seq its n/\its.size<=sizeLine/\zC xs its.toList
def uQ:Value->Option V
 |.none=>some .non
 |.bool b=>some (.bl b)
 |.int i _=>some (.int i)
 |.str x _=>some (.str x)
 |.bytes b _=>some (.byt b)
 |.float b _=>some (.flt b)
 |.ref a=>↑a
 |.type n=>some (.ty n)
 |_=>none
theorem DC.abs {x:V} {u:Value} (r:DC x u):uQ u>x:=by
 cases x with
 |non=>cases r;rfl
 |bl _=>cases r;rfl
 |int _=>let(t,rfl):=r;rfl
 |str _=>let(t,rfl):=r;rfl
 |byt _=>let(t,rfl):=r;rfl
 |flt _=>let(t,rfl):=r;rfl
 |ref _=>cases r;rfl
 |ty _=>cases r;rfl
theorem DC.inj {x y:V} {u:Value} (r:DC x u) (q:DC y u):x=y:=bA (r.abs.symm.trans q.abs)
theorem zC.inj:∀{xs ys:!V} {us:!Value},zC xs us->zC ys us->xs=ys
 |_,_,_,.nil,.nil=>rfl
 |_,_,_,.cons r t,.cons r' t'=>by rw[r.inj r',zC.inj t t']
section
variable {X:Cx} {pins:!(Addr×Obj)} {σ:St} {H:Hp} {s:Shared} {a:Addr} {xs ys:!V}
theorem uC.of {K:PySem.W.Frag} (h:H a>(.lst xs)):uC K H a xs:=.inl (.inl h)
theorem VC.of {K:PySem.W.Frag} (h:H a>(.tup xs)):VC K H a xs:=.inl (.inl h)
theorem vC.list (q:vC X pins σ H s) (h:uC X.K H a xs):∃j:!Value,zC xs j/\PlainL s.heap a j.toArray/\xs.length<=sizeLine:=by
 let h||(o,j,n,F,D,hd,J,hz,r):=h
 .let(O,j,n,r,e):=h.ok q.hok;show(j,r,(_,n,e,rfl,rfl,rfl),O)
 .show(j.toList,r,(o,n,q.kIn a o F,D,hd,by simpa using J),?_);let e:=r.length;simp only[rB] at e;omega
theorem vC.tuple (q:vC X pins σ H s) (h:VC X.K H a xs):∃j:!Value,zC xs j/\IsTup s.heap a j.toArray/\xs.length<=sizeLine:=by
 let h||(o,j,n,F,D,J,hz,r):=h
 .let(O,j,r,p):=h.ok q.hok;show(j,r,p,O)
 .show(j.toList,r,(o,q.kIn a o F,D,n,by simpa using J),?_);let e:=r.length;simp only[rB] at e;omega
theorem vC.list_inj (j:vC X pins σ H s) (h:uC X.K H a xs) (h':uC X.K H a ys):xs=ys:=by
 let(J,r,(o,n,e,_,_,D),_):=j.list h;let(its',r',(U,O,q,_,_,d'),_):=j.list h';rw[e] at q;cases q;rw[D] at d';injection d' with F _;have:J=its':=by simpa using congrArg Array.toList F
 subst this;show r.inj r'
theorem vC.tuple_inj (j:vC X pins σ H s) (h:VC X.K H a xs) (h':VC X.K H a ys):xs=ys:=by
 let(J,r,(o,e,_,n,D),_):=j.tuple h;let(its',r',(U,q,_,O,d'),_):=j.tuple h';rw[e] at q;cases q;rw[D] at d';injection d' with F _;have:J=its':=by simpa using congrArg Array.toList F
 subst this;show r.inj r'
end
abbrev Cx.wish (X:Cx) (E:Value->Shared->Prop):Cx:={X with xe:=E}
abbrev Cx.nox (X:Cx):Cx:=X.wish λο ο=>False
theorem Cx.Ok.wish {X:Cx} (ok:X.Ok) (E:Value->Shared->Prop):(X.wish E).Ok:=
 (ok.mod,ok.kind,ok.glob,ok.blt,ok.above,ok.inj,ok.has,ok.cab,ok.hd,ok.frames,ok.stk,ok.exf,ok.bs,ok.bsz,ok.noex,ok.exfs,ok.funs,ok.frf)
theorem Cx.Ok.unwish {X:Cx} {E:Value->Shared->Prop} (ok:(X.wish E).Ok):X.Ok:=
 (ok.mod,ok.kind,ok.glob,ok.blt,ok.above,ok.inj,ok.has,ok.cab,ok.hd,ok.frames,ok.stk,ok.exf,ok.bs,ok.bsz,ok.noex,ok.exfs,ok.funs,ok.frf)
section
variable {X:Cx} {pins:!(Addr×Obj)} {σ:St} {H:Hp} {s:Shared} {E:Value->Shared->Prop}
theorem vC.wish (I:vC X pins σ H s) (E:Value->Shared->Prop):vC (X.wish E) pins σ H s:=(I.ok.wish E,I.os,I.bare,I.base,I.loc,I.cell,I.free,I.freeC,I.pin,I.hok,I.len)
theorem vC.unwish (I:vC (X.wish E) pins σ H s):vC X pins σ H s:=(I.ok.unwish,I.os,I.bare,I.base,I.loc,I.cell,I.free,I.freeC,I.pin,I.hok,I.len)
theorem SP.unwish {J:NE} {f:Flow} {s':Shared} (h:SP (X.wish E) pins J f s'):SP X pins J f s':=by
 cases f with
 |next=>let(F,j,D,q):=h;show(F,j,D.unwish,q)
 |brk=>let(F,j,D,q):=h;show(F,j,D.unwish,q)
 |cont=>let(F,j,D,q):=h;show(F,j,D.unwish,q)
 |ret u=>let(v,F,j,D,r,q):=h;show(v,F,j,D.unwish,r,q)
theorem PE.nox {e:Expr} {t:TE} (h:PE X.nox e t):PE X e t:=λO s V H Q D J=>
 FB (h O s V H Q (D.wish _) J) (λ_ _ ⟨v,j,F,r,q⟩=>(v,j,F.unwish,r,q)) λο ο U=>False.elim U
theorem PT.nox {e:Expr} {t:TT} (h:PT X.nox e t):PT X e t:=λO s V H Q D J=>
 FB (h O s V H Q (D.wish _) J) (λ_ _ ⟨j,F,q⟩=>(j,F.unwish,q)) λο ο U=>False.elim U
theorem SF.nox {j:!Stmt} {t:TS} (h:SF X.nox j t):SF X j t:=λO s V H D F J=>
 FB (h O s V H D (F.wish _) J) (λο ο q=>q.unwish) λο ο U=>False.elim U
end
section
variable {X:Cx} {st:Stmt} {rest:!Stmt} {t u:TS} {e:Expr} {te:TE} {pos:Pos}
def tNext:TS:=λD σ H=>D.nx σ H
def UM (t u:TS):TS:=λD σ H=>t {D with nx:=u D} σ H
theorem KD:SF X [] tNext:=λο ο q H ο j h=>wpAny_execs_nil (q,H,j,h)
theorem OC (U:PS X st t) (V:SF X rest u):SF X (st::rest) (UM t u):=by
 intro D s W H j J h;show wpAny_execs_cons (cD (U D s W H {j with nx:=u j} J h) λf s1 q=>?_);cases f with
 |next=>
  let(Z,F,O,q):=q;show V D s1 Z F j O q
 |ret v=>show q
 |brk=>show q
 |cont=>show q
theorem FC (F:PS X st t):SF X [st] t:=by
 intro J s O H j D h;show wpAny_execs_cons (cD (F J s O H j D h) λf s1 q=>?_);cases f with
 |next=>show wpAny_execs_nil q
 |ret v=>show q
 |brk=>show q
 |cont=>show q
def tCont:TS:=λD σ H=>D.ct σ H
theorem iZ:PS X (.Continue pos) tCont:=λο ο q H ο j h=>wpAny_Continue (q,H,j,h)
theorem vC.quiet {q:!(Addr×Obj)} {D:St} {H:Hp} {s:Shared} (j:vC X q D H s):interactive X.env=false:=by simp[interactive,j.ok.kind]
def jJ (te:TE):TS:=λD σ H=>te σ H λο H1=>D.nx σ H1
theorem kF (J:PE X e te) (O:swapsWith e none pos.line X.env=pure false:=by rfl):PS X (.Expr e pos) (jJ te):=by
 intro U s q H W j h;show wpAny_Expr_any (cD (J U s q H _ j h) λv s1 ⟨x,D,F,Z,V⟩=>(q,D,F,V)) j.quiet O
def VM (te:TE):TS:=λD σ H=>te σ H D.rt
theorem sD (J:PE X e te):PS X (.Return (some e) pos) (VM te):=by
 intro O s j H W D h;show wpAny_Return_some (cD (J O s j H _ D h) λv s1 ⟨x,q,F,V,U⟩=>(x,j,q,F,V,U))
def WM (c:TT) (t u:TS):TS:=λD σ H=>c σ H λb H1=>if b=true then t D σ H1 else u D σ H1
theorem JD {c:Expr} {a b:!Stmt} {U:TT} (a1:PT X c U) (Z:SF X a t) (a0:SF X b u):PS X (.If c a b pos) (WM U t u):=by
 intro j s q H D V h;show wpAny_If (cD (a1 j s q H _ V h) λW s1 a2=>?_);let(F,J,O):=a2;cases W with
 |true=>show Z j s1 q F D J O
 |false=>show a0 j s1 q F D J O
end
abbrev TG:=V->St->Hp->(St->Hp->Prop)->Prop
abbrev TGs:=!V->St->Hp->(St->Hp->Prop)->Prop
def PG (X:Cx) (target:Expr) (t:TG):Prop:=
 ∀(pins:!(Addr×Obj)) (s:Shared) (σ:St) (H:Hp) (v:V) (u:Value) (Q:St->Hp->Prop),vC X pins σ H s->DC v u->t v σ H Q->
  wpAny (model X.prog X.w) X.A (assign target X.env u) (λο s'=>∃σ' H',vC X pins σ' H' s'/\Q σ' H') X.xe s
def fP (X:Cx) (ts:!Expr) (t:TGs):Prop:=
 ∀(pins:!(Addr×Obj)) (s:Shared) (σ:St) (H:Hp) (vs:!V) (us:!Value) (Q:St->Hp->Prop),vC X pins σ H s->zC vs us->t vs σ H Q->
  wpAny (model X.prog X.w) X.A (assignInOrder ((assignEach ts X.env).map (·.2)) us) (λο s'=>∃σ' H',vC X pins σ' H' s'/\Q σ' H') X.xe s
abbrev TSet:=V->V->V->Hp->(Hp->Prop)->Prop
def XM (X:Cx) (t:TSet):Prop:=
 ∀(pins:!(Addr×Obj)) (s:Shared) (σ:St) (H:Hp) (o i v:V) (ov iv u:Value) (Q:Hp->Prop),vC X pins σ H s->DC o ov->DC i iv->DC v u->t o i v H Q->
  wpAny (model X.prog X.w) X.A (setItem ov iv u) (λο s'=>∃H',vC X pins σ H' s'/\Q H') X.xe s
section
variable {X:Cx} {pos:Pos}
def BF (i:Nat):TG:=λv σ H Q=>Q (σ.set i (some v)) H
theorem jE {i:Nat} {x:Str} (D:X.N.Nodup) (J:X.N[i]?>x) (O:bP X.env.scope x) (F:X.fn x=true\/X.env.scope.names.lookup x>.local:=by first|exact .inl rfl|exact .inr rfl|assumption):PG X (.Name x pos) (BF i):=by
 intro U s V H v u Q j r h;show wpAny_assign_Name (HV j D J O r (λs' q=>(_,H,q,h)) F)
def gNil:TGs:=λvs σ H Q=>vs=[]/\Q σ H
def kJ (t:TG) (u:TGs):TGs:=λvs σ H Q=>∃v r,vs=v::r/\t v σ H λσ' H'=>u r σ' H' Q
theorem YM:fP X [] gNil:=by
 intro D s q H vs us Q j r h;let(e,h):=h;subst e;cases r;show assignInOrder_nil (q,H,j,h)
theorem zI {e:Expr} {es:!Expr} {t:TG} {u:TGs} (O:PG X e t) (U:fP X es u)
  (V:(assignEach (e::es) X.env).map (·.2)=assign e X.env::(assignEach es X.env).map (·.2):=by rfl):fP X (e::es) (kJ t u):=by
 intro j s a1 H vs us Q D r h;let(v,a3,J,h):=h;subst J;cases r with
 |cons r Z=>
  rw[V];show assignInOrder_cons (cD (O j s a1 H _ _ _ D r h) λ_ s1 a0=>?_);let(a2,q,F,W):=a0;show U j s1 a2 q _ _ Q F Z W
def ZM (K:PySem.W.Frag) (n:Nat) (t:TGs):TG:=λv σ H Q=>∃a xs,v=.ref a/\VC K H a xs/\xs.length=n/\t xs σ H Q
theorem aN {es:!Expr} {k:Nat} {t:TGs} {n:Nat} (V:X.calm=true) (h:fP X es t)
  (Z:(assignEach es X.env).length=n:=by rfl) (a1:(assignEach es X.env).findIdx? (·.1)=none:=by rfl):PG X (.Tuple es k pos) (ZM X.K n t):=by
 intro D s J H v u Q j r q;let(a,xs,U,a0,W,q):=q;subst U;cases r;let(a4,F,a2,hz):=j.tuple a0;show assign_Tuple_tuple (j.ok.hd V) a2 (by simp[Z,<-W,F.length]) a1 λh' a3=>?_;let O:vC X D J H {s with heap:=h'}:=j.kept (t':=s.toks) λb o e=>a3 b o (SA (EA e)) e;show h D _ J H xs _ Q O (by simpa using F) q
def dN (to ti:TE) (t:TSet):TG:=λv σ H Q=>to σ H λo H1=>ti σ H1 λi H2=>t o i v H2 λH3=>Q σ H3
theorem lF {o i:Expr} {to O:TE} {t:TSet} (a5:PE X o to) (a4:PE X i O) (a6:XM X t)
  (a3:∀v,assign (.Subscript o i pos) X.env v=(do
   let j<-holding [v] (eval o X.env)
   let q<-holding [v,j] (eval i X.env)
   standAt pos
   holding [v,j,q] (setItem j q v)
   release [v,j,q] []):=by intro _;rfl):PG X (.Subscript o i pos) (dN to O t):=by
 intro J s F H v u Q Z r h;rw[a3];show eA (zB (cD (a5 J s F H _ Z h) λj s1 D=>?_));let(x,U,a0,aa,a7):=D;show eA (zB (cD (a4 J s1 F U _ a0 a7) λq ac D=>?_));let(y,V,a1,ab,a8):=D;show eA (wpAny_standAt (eA (zB (cD (a6 J ac F V x y v j q u _ a1 aa ab r a8) λ_ ad D=>?_))));let(W,a2,a9):=D;show wpAny_release (F,W,a2,a9)
def KI (te:TE) (g:TG):TS:=λD σ H=>te σ H λx H1=>g x σ H1 D.nx
theorem mF {j e:Expr} {F:TE} {g:TG} (Z:PE X e F) (a0:PG X j g) (a1:swapsWithSole [j] e pos.line X.env=pure false:=by rfl) (a2:swappedStores [j] e X.env=pure none:=by rfl)
  (W:(assignEach [j] X.env).map (·.2)=[assign j X.env]:=by rfl):PS X (.Assign [j] e pos) (KI F g):=by
 intro D s J H a6 U h;show wpAny_Assign_stores (cD (Z D s J H _ U h) λv s1 a5=>?_) a1 a2;let(x,O,V,a4,a3):=a5;rw[W];show cD (a0 D s1 J O x v _ V a4 a3) λο a7 q=>q
theorem mD {i:Nat} {x:Str} {e:Expr} {q:TE} {j:Pos} (U:X.N.Nodup) (Z:X.N[i]?>x) (a1:bP X.env.scope x) (V:PE X e q) (a0:swapsWith e (some (.Name x j)) pos.line X.env=pure false:=by rfl) (W:X.fn x=true\/X.env.scope.names.lookup x>.local:=by first|exact .inl rfl|exact .inr rfl|assumption):
  PS X (.Assign [.Name x j] e pos) (KI q (BF i)):=by
 intro a2 s a6 H a7 F h;show wpAny_Assign_Name (cD (V a2 s a6 H _ F h) λv s1 a5=>?_) a0;let(y,D,J,a4,a3):=a5;show HV J U Z a1 a4 (λa8 O=>(_,D,O,a3)) W
end
section
variable {X:Cx} {pos:Pos}
def UH (c:TT) (tb:TS):TS:=λD σ H=>∃W:Nat->St->Hp->Prop,(∃m,W m σ H)/\∀m σ H,W m σ H->
 c σ H λb H1=>if b=true then ∃N:St->Hp->Prop,(∀σ' H',N σ' H'->∃m',m' < m/\W m' σ' H')/\tb {D with nx:=N,ct:=N,bk:=D.nx} σ H1 else D.nx σ H1
theorem jZ {c:Expr} {a5:!Stmt} {a9:TT} {a8:TS} (a7:PassesOwn (model X.prog X.w) X.A X.env X.xe) (ae:PT X c a9) (ad:SF X a5 a8):PS X (.While c a5 [] pos) (UH a9 a8):=by
 intro Z s al H am ab h;let(W,(af,ai),ah):=h;show wpAny_While (codeAny_whileLoop (λn s'=>∃aa a1,vC X Z aa a1 s'/\W n aa a1) ?_ af (al,H,ab,ai));rintro n s1 ⟨J,a2,ac,aj⟩;show wpAny_passesOwn a7 (cD (ae Z s1 J a2 _ ac (ah n J a2 aj)) λb ag ak=>?_);let(a3,a4,D):=ak;cases b with
 |true=>
  let(N,a6,D):=D;rw[iA rfl];show wpAny_passesOwn a7 (cD (ad Z ag J a3 _ a4 D) λf ao F=>?_);cases f with
  |next=>
   let(q,j,O,V):=F;let(m',U,a0):=a6 q j V;show(m',U,q,j,O,a0)
  |cont=>
   let(q,j,O,V):=F;let(m',U,a0):=a6 q j V;show(m',U,q,j,O,a0)
  |brk=>show F
  |ret v=>show F
 |false=>
  rw[gA lA];show wpAny_execs_nil (J,a3,a4,D)
end
set_option genInjectivity false in
structure It where
 go:Nat->Hp->Prop
 yld:Nat->Hp->V->Hp->Prop
 stop:Nat->Hp->Prop
def OE (X:Cx) (pins:!(Addr×Obj)) (H:Hp) (b:Addr):Prop:=
 H b=none/\b≠X.env.locals/\b∉X.fs/\(b∈X.ex\/X.s₀.heap.objs.size<=b)/\(∀x c,X.env.cells.lookup x>c->c≠b)/\∀p∈X.pn++pins,p.1≠b
theorem vC.fpOk {X:Cx} {O:!(Addr×Obj)} {W:St} {H J:Hp} {s:Shared} {b:Addr} (j:vC X O W H s) (D:s.heap.objs.size<=b) (U:J b=none):OE X O J b:=by
 show(U,Nat.ne_of_gt (OA j.lt D),j.nofs D,.inr (kB j.sz D),λx c e F=>?_,λp V F=>?_)
 .let(v,q):=j.cell x c e;show absurd (OA q.lt (by rw[F];show D)) (kC _)
 .show absurd (OA (EA (j.pin p V).1) (by rw[F];show D)) (kC _)
structure VG (P:Program) (w:World) (K:PySem.W.Frag) (tg:Expr) (J:It) (fp:!Addr) (it:Addr) (tn:Nat->Heap->Prop):Prop where
 mem:it∈fp
 obj:∀i h,tn i h->∀b∈fp,∃o,h.get? b>o/\∀v,o.data≠.cell v
 keep:∀i h h',tn i h->(∀b∈fp,∀o,h.get? b>o->h'.get? b>o)->tn i h'
 item:∀(X:Cx),X.prog=P->X.w=w->X.K=K->X.calm=true->∀(i:Nat) (pins:!(Addr×Obj)) (s:Shared) (σ:St) (H:Hp) (E:Value->Shared->Prop),vC X pins σ H s->(∀b∈fp,OE X pins H b)->tn i s.heap->J.go i H->
  wpAny (model P w) X.A (pyNext (.ref it)) (λr s1=>∃u,r>u/\
   wpAny (model P w) X.A (letOwnedTupleGo tg (.ref it) u) (λο s2=>∃x H',vC X pins σ H' s2/\DC x u/\J.yld i H x H'/\tn (i+1) s2.heap/\∀b∈fp,H' b=none) E s1) E s
 done:∀(X:Cx),X.prog=P->X.w=w->X.K=K->X.calm=true->∀(i:Nat) (pins:!(Addr×Obj)) (s:Shared) (σ:St) (H:Hp) (E:Value->Shared->Prop),vC X pins σ H s->(∀b∈fp,OE X pins H b)->tn i s.heap->J.stop i H->
  wpAny (model P w) X.A (pyNext (.ref it)) (λr s1=>r=none/\vC X pins σ H s1) E s
 self:∀(A:Around) (i:Nat) (s:Shared) (Q:Value->Shared->Prop) (E:Value->Shared->Prop),tn i s.heap->Q (.ref it) s->wpAny (model P w) A (pyIter (.ref it)) Q E s
abbrev TI:=St->Hp->(It->Hp->Prop)->Prop
def LV (X:Cx) (pins:!(Addr×Obj)) (σ:St) (tg:Expr) (R:It->Hp->Prop) (itv:Value) (s2:Shared):Prop:=
 ∃(it:Addr) (fp:!Addr) (tn:Nat->Heap->Prop) (J:It) (H':Hp),itv=.ref it/\vC X pins σ H' s2/\VG X.prog X.w X.K tg J fp it tn/\tn 0 s2.heap/\(∀b∈fp,OE X pins H' b)/\R J H'
def PI (X:Cx) (tg iter:Expr) (wi:TI):Prop:=
 ∀(pins:!(Addr×Obj)) (s:Shared) (σ:St) (H:Hp) (R:It->Hp->Prop),vC X pins σ H s->wi σ H R->
  wpAny (model X.prog X.w) X.A (eval iter X.env) (λv s1=>wpAny (model X.prog X.w) X.A (pyIter v) (LV X pins σ tg R) X.xe s1) X.xe s
theorem vQ {M : Model} {A : Around} {E : Value -> Shared -> Prop} {s : Shared} {q : Expr} {it : Addr} {u : Value} {o : Obj} {n : String} {vs : Array Value} {Q : Unit -> Shared -> Prop} (J : s.heap.get? it = some o) (D : o.cls = .type n) (hd : o.data = .fields vs)
    (F : ["enumerate", "zip", "dict_itemiterator", "dict_reverseitemiterator", "odict_iterator", "itertools.zip_longest", "itertools.pairwise"].contains n = false) (j : Q ⟨⟩ s) : wpAny M A (letOwnedTupleGo q (.ref it) u) Q E s := by
  unfold letOwnedTupleGo;cases q <;> first
    | show vA j
    | (cases u <;> first
        | show vA j
        | (show eA (wpAny_load J ?_)
           rw [D, hd];change wpAny M A (if (["enumerate", "zip", "dict_itemiterator", "dict_reverseitemiterator", "odict_iterator", "itertools.zip_longest", "itertools.pairwise"].contains n && vs[0]? == some (rawInt _)) = true then _ else _) Q E s;rw [gA (by intro h; rw [F, Bool.false_and] at h; cases h)];show vA j))
def lJ (K:PySem.W.Frag) (a:Addr):It:=
 (λi H=>∃xs x,uC K H a xs/\xs[i]?>x,λi H x H'=>H'=H/\∀xs,uC K H a xs->xs[i]?>x,λi H=>∃xs,uC K H a xs/\xs.length<=i)
def LI (lo:Int) (n:Nat):It:=(λi ο=>i < n,λi H x H'=>H'=H/\x=.int (lo+i),λi ο=>n<=i)
theorem lZ {P:Program} {w:World} {K:PySem.W.Frag} {ak:Expr} (a it:Addr):VG P w K ak (lJ K a) [it] it (λi h=>h.IsListIter it a i) where
 mem:=by simp
 obj:=λi h j b D=>by
  let e:b=it:=by simpa using D
  subst e;let(o,e,c,O):=j;show(o,e,λv aa=>by rw[O] at aa;cases aa)
 keep:=λi h h' j k=>j.at λo e=>k it (by simp) o e
 item:=by
  intro X a2 a4 a1 a7 i a8 s ab H E q F j a3;subst a2 a4 a1;let(xs,x,J,a5):=a3;let(ah,a6,p,hz):=q.list J;let(u,af,ai):=a6.get a5;let(U,V,ae,W,Z,a0):=F it (by simp);show wpAny_pyNext_list_item j p.isList (x:=u) (by simpa using af) λh' a9 aj=>?_;let ac:vC X a8 ab H {s with heap:=h'}:=q.turned (t':=s.toks) (λb o D e=>(aj.2 b D).trans e) U V W Z a0;let(o,e,c,O):=id a9;show(u,rfl,vQ (s:={s with heap:=h'}) e c O (by decide) (x,H,ac,ai,⟨rfl,λam ag=>by rw[q.list_inj ag J];show a5⟩,a9,λb D=>(F b D).1))
 done:=by
  intro X a2 a4 a1 a7 i a8 s ab H E q F j a3;subst a2 a4 a1;let(xs,J,a5):=a3;let(ah,a6,p,hz):=q.list J;let(U,V,ae,W,Z,a0):=F it (by simp);let al:=a6.length;show wpAny_pyNext_list_end (q.ok.hd a7) j p.isList (by simp;omega) λh' ad=>⟨rfl,q.turned (t':=s.toks) (λb o D e=>ad b o D e) U V W Z a0⟩
 self:=λο ο ο ο ο j h=>wpAny_pyIter_listiter j h
theorem mZ {P:Program} {w:World} {K:PySem.W.Frag} {ae:Expr} (it:Addr) (lo:Int) (n:Nat):VG P w K ae (LI lo n) [it] it (λi h=>IsRangeIter h it (lo+(i:Nat) * 1) ((n:Int) - (i:Nat)) 1) where
 mem:=by simp
 obj:=λi h j b q=>by
  let e:b=it:=by simpa using q
  subst e;show(_,j,λv af=>by
   let ag:Data.fields _=Data.cell v:=af;cases ag)
 keep:=λi h h' j k=>k it (by simp) _ j
 item:=by
  intro X a1 a4 a0 a2 i a5 s a8 H E D F j a3;subst a1 a4 a0;let(J,O,ab,U,V,Z):=F it (by simp);let W:=Walks.range (prog:=X.prog) (w:=X.w) (D.ok.hd a2) it lo 1 n;show W.item i s _ _ a3 j λv h' a7 ac a6 ad=>?_;let(t,rfl):=ac;let a9:vC X a5 a8 H {s with heap:=h',toks:=a7}:=D.turned (λb o q e=>ad b o (by simpa using q) e) J O U V Z;show(_,rfl,vQ (s:={s with heap:=h',toks:=a7}) (n:="range_iterator") a6 rfl rfl (by decide) (.int (lo+i),H,a9,⟨t,?_⟩,⟨rfl,rfl⟩,a6,λb q=>(F b q).1));rw[Int.mul_one]
 done:=by
  intro X a1 a4 a0 a2 i a5 s a8 H E D F j a3;subst a1 a4 a0;let(J,O,ab,U,V,Z):=F it (by simp);show wpAny_pyNext_range_end (D.ok.hd a2) j (by have:n<=i:=a3;omega) λh' aa=>⟨rfl,D.turned (t':=s.toks) (λb o q e=>aa b o q e) J O U V Z⟩
 self:=λο ο ο ο ο j h=>wpAny_pyIter_rangeiter j h
section
variable {X:Cx} {tg:Expr}
def mJ (K:PySem.W.Frag) (tl:TE):TI:=λσ H R=>tl σ H λx H1=>∃a,x=.ref a/\(∃xs,uC K H1 a xs)/\R (lJ K a) H1
theorem vH {l:Expr} {D:TE} (U:PE X l D):PI X tg l (mJ X.K D):=by
 intro W s a2 H R J h;show cD (U W s a2 H _ J h) λv s1 a1=>?_;let(x,F,j,a0,Z):=a1;let(a,e,(xs,V),q):=Z;subst e;cases a0;let(a3,a4,p,hz):=j.list V;show wpAny_pyIter_list p.isList ?_;show(s1.heap.objs.size,[s1.heap.objs.size],_,_,F,rfl,j.kept (t':=s1.toks) λb o e=>uA _ e,lZ a _,(_,HA _ rfl,rfl,rfl),λb O=>?_,q);let e:b=s1.heap.objs.size:=by simpa using O
 subst e;show j.fpOk (pA _) (j.hok.fresh (pA _))
theorem nZ {F:!(Addr×Obj)} {O:St} {H:Hp} {s:Shared} {R:It->Hp->Prop} {E:Value->Shared->Prop} {lo j:Int} {t u v:Tok} {J:Nat} (U:vC X F O H s) (Z: -(2 ^ 62)<=lo) (a0:lo < 2 ^ 62) (a1: -(2 ^ 62)<=j) (a2:j < 2 ^ 62)
  (q:R (LI lo (j - lo).toNat) H):wpAny (model X.prog X.w) X.A (pyIter (.ref s.heap.objs.size)) (LV X F O tg R) E {s with heap:=s.heap.push {cls:=.type "range",data:=.fields #[.int lo t,.int j u,.int 1 v]},toks:=J}:=by
 show wpAny_pyIter_range (IsRange.new ..) (small_one Z a0 a1 a2) ?_;let D:vC X F O H {s with heap:=s.heap.push {cls:=.type "range",data:=.fields #[.int lo t,.int j u,.int 1 v]},toks:=J}:=U.kept λb o e=>uA _ e;show((s.heap.push {cls:=.type "range",data:=.fields #[.int lo t,.int j u,.int 1 v]}).objs.size,[(s.heap.push {cls:=.type "range",data:=.fields #[.int lo t,.int j u,.int 1 v]}).objs.size],_,_,H,rfl,
  D.kept (t':=J) λb o e=>uA _ e,mZ _ lo (j - lo).toNat,?_,λb a3=>?_,q)
 .let V:lo+((0:Nat):Int) * 1=lo:=by simp
  let W:(((j - lo).toNat:Nat):Int) - ((0:Nat):Int)=Builtin.Range.rangeSize lo j 1:=by rw[rangeSize_one];split<;>omega
  change IsRangeIter _ _ (lo+((0:Nat):Int) * 1) ((((j - lo).toNat:Nat):Int) - ((0:Nat):Int)) 1;rw[V,W];show HA _ rfl
 .let e:b=(s.heap.push {cls:=.type "range",data:=.fields #[.int lo t,.int j u,.int 1 v]}).objs.size:=by simpa using a3
  subst e;show D.fpOk (pA _) (D.hok.fresh (pA _))
def nJ (ta:TA):TI:=λσ H R=>ta σ H λvs H1=>∃j:Int,vs=[.int j]/\ -(2 ^ 62)<=j/\j < 2 ^ 62/\R (LI 0 j.toNat) H1
theorem iG {a:Expr} {ta:TA} {p J:Pos} (V:Gl X "range") (W:X.mg "range"=none) (U:PA X [a] ta) (Z:starEach [a] X.env=[(false,eval a X.env)]:=by rfl):PI X tg (.Call (.Name "range" p) [a] [] J) (nJ ta):=by
 intro a0 s a5 H R F h;show Call_ (OM F V W boot_range (PyProof.Rows.callWith_type1 (cD (U J a0 s a5 H _ F h) λus s1 a4=>?_) Z rfl));let(vs,a6,O,a2,D):=a4;let(j,e,D,a1,q):=D;subst e;cases a2 with
 |cons r a3=>
  cases a3;let(t,rfl):=r;show call_range_1 (nZ O ⋯ ⋯ D a1 (by simpa using q))
def wQ (wi:TI) (g:TG) (tb:TS):TS:=λD σ H=>wi σ H λJ H1=>∃W:Nat->Nat->St->Hp->Prop,(∃m,W 0 m σ H1)/\∀i m σ H,W i m σ H->
 (J.stop i H/\D.nx σ H)\/(J.go i H/\∃N:St->Hp->Prop,(∀σ' H',N σ' H'->∃m',m' < m/\W (i+1) m' σ' H')/\∀x H',J.yld i H x H'->g x σ H' λσ2 H2=>tb {D with nx:=N,ct:=N,bk:=D.nx} σ2 H2)
def jG (fp:!Addr) (h:Heap):!(Addr×Obj):=fp.filterMap λb=>(h.get? b).map λo=>(b,o)
theorem gM {j:!Addr} {h:Heap} {b:Addr} {o:Obj} (q:b∈j) (e:h.get? b>o):(b,o)∈jG j h:=List.mem_filterMap.mpr (b,q,by rw[e];rfl)
theorem oZ {j:!Addr} {h:Heap} {p:Addr×Obj} (J:p∈jG j h):p.1∈j/\h.get? p.1>p.2:=by
 let(b,F,e):=List.mem_filterMap.mp J;cases q:h.get? b with
 |none=>rw[q] at e;cases e
 |some o=>
  rw[q] at e;let D:(b,o)=p:=bA e;subst D;show⟨F,q⟩
theorem vC.pinned {q:!(Addr×Obj)} {U:St} {H:Hp} {s:Shared} {j:!Addr} (F:vC X q U H s) (a1:∀b∈j,OE X q H b) (a2:∀b∈j,∃o,s.heap.get? b>o/\∀v,o.data≠.cell v):vC X (q++jG j s.heap) U H s:=
 F.pins_of λp a3=>(UA.mp a3).elim (λD=>F.pin p (DA _ D)) λD=>by
  let(O,e):=oZ D;let(W,Z,a0,_):=a1 p.1 O;let(o,J,V):=a2 p.1 O;rw[e] at J;cases J;show(e,W,Z,a0,V)
theorem vC.unpinned {q pl:!(Addr×Obj)} {D:St} {H:Hp} {s:Shared} (j:vC X (q++pl) D H s):vC X q D H s:=j.pins_of λp F=>j.pin p (DA _ (xB _ F))
theorem vK {a6:Expr} {ad:!Stmt} {al:TI} {g:TG} {ak:TS} {b9:Pos} (a0:PassesOwn (model X.prog X.w) X.A X.env X.xe) (ag:X.calm=true) (b4:PI X tg a6 al) (b3:PG X tg g) (D:SF X ad ak)
  (b7:∀x,foldedSetIterable a6 X.env x=pure x:=by intro _;rfl):PS X (.For tg a6 ad [] b9) (wQ al g ak):=by
 intro U s am H br aq h;show wpAny_For (cD (b4 U s am H _ aq h) λv s1 az=>cD az λbv bw b0=>?_) b7;let(it,Z,tn,bt,ao,e,ar,T,bg,ae,W,(b8,bj),bi):=b0;subst e;let a9:∀{J:Hp},(∀b∈Z,J b=none)->∀b∈Z,OE X U J b:=λb6 b D=>⟨b6 b D,(ae b D).2⟩
 show codeAny_forLoop_any (λn s'=>∃i a2 J,vC X U a2 J s'/\tn i s'.heap/\(∀b∈Z,J b=none)/\W i n a2 J) ?_ b8 (0,am,ao,ar,bg,λb D=>(ae b D).1,bj);rintro n ah ⟨i,a3,a4,ab,aj,af,bl⟩;let(bh,bb)||(go,N,b2,step):=bi i n a3 a4 bl
 .show wpAny_passesOwn a0 (cD (T.done X rfl rfl rfl ag i U ah a3 a4 X.xe ab (a9 af) aj bh) λr be V=>?_);let(a5,au):=V;subst a5;show wpAny_execs_nil (a3,a4,au,bb)
 .show wpAny_passesOwn a0 (cD (T.item X rfl rfl rfl ag i U ah a3 a4 X.xe ab (a9 af) aj go) λr be V=>?_);let(u,a5,b1):=V;subst a5;show wpAny_passesOwn a0 (cD b1 λ_ ai V=>?_);let(x,aa,av,bc,bp,a8,ay):=V;let aw:=av.pinned (a9 ay) (T.obj _ _ a8);show wpAny_passesOwn a0 (cD (b3 _ ai a3 aa x u _ aw bc (step x aa bp)) λ_ bf V=>?_);let(bq,ap,ax,ba):=V;show wpAny_passesOwn a0 (cD (D _ bf bq ap _ ax ba) λf a7 O=>?_);let ac:∀{F:St} {j:Hp},vC X (U++jG Z ai.heap) F j a7->N F j->∃m,m < n/\∃i a2 J,vC X U a2 J a7/\tn i a7.heap/\(∀b∈Z,J b=none)/\W i m a2 J:=λ{F j} q a1=>by
   let(m',b5,bm):=b2 F j a1;show(m',b5,i+1,F,j,q.unpinned,T.keep _ _ _ a8 λb D o e=>(q.pin (b,o) (DA _ (DA _ (gM D e)))).1,λb D=>?_,bm);let(o,e,bu):=T.obj _ _ a8 b D;show (q.pin (b,o) (DA _ (DA _ (gM D e)))).2.1
  cases f with
  |next=>let(F,j,q,a1):=O;show ac q a1
  |cont=>let(F,j,q,a1):=O;show ac q a1
  |brk=>let(F,j,q,O):=O;show(F,j,q.unpinned,O)
  |ret v=>let(bn,F,j,q,bd,O):=O;show(bn,F,j,q.unpinned,bd,O)
end
theorem pZ {K:PySem.W.Frag} {a:Addr} {xs:!V} {g:TG} {a1:TS} {J:NE} {j:St} {H:Hp} (D:Nat->St->Hp->Prop) (a2:D 0 j H) (a4:∀i j H,i<=xs.length->D i j H->uC K H a xs)
  (a5:∀i x j H,xs[i]?>x->D i j H->g x j H λZ O=>a1 {J with nx:=D (i+1),ct:=D (i+1),bk:=J.nx} Z O) (hd:∀j H,D xs.length j H->J.nx j H):
  ∃W:Nat->Nat->St->Hp->Prop,(∃m,W 0 m j H)/\∀i m j H,W i m j H->
   ((lJ K a).stop i H/\J.nx j H)\/((lJ K a).go i H/\∃N:St->Hp->Prop,(∀U F,N U F->∃m',m' < m/\W (i+1) m' U F)/\∀x F,(lJ K a).yld i H x F->g x j F λZ O=>a1 {J with nx:=N,ct:=N,bk:=J.nx} Z O):=by
 show(λi m j H=>m=xs.length - i/\i<=xs.length/\D i j H,(xs.length,by simp,LB _,a2),?_);rintro i m j H ⟨rfl,a3,p⟩;let q:=a4 i j H a3 p;by_cases a0:i < xs.length
 .show .inr ((xs,xs[i],q,by simp[a0]),D (i+1),λU F a6=>(xs.length - (i+1),⋯,rfl,a0,a6),λx F y=>?_);let(e,y):=y;subst e;show a5 i x j _ (y xs q) p
 .let e:i=xs.length:=⋯;subst e;show .inl ⟨(xs,q,pA _),hd j H p⟩
theorem qZ {lo:Int} {n:Nat} {g:TG} {Z:TS} {F:NE} {j:St} {H:Hp} (D:Nat->St->Hp->Prop) (a0:D 0 j H)
  (a1:∀i j H,i < n->D i j H->g (.int (lo+i)) j H λV J=>Z {F with nx:=D (i+1),ct:=D (i+1),bk:=F.nx} V J) (hd:∀j H,D n j H->F.nx j H):
  ∃W:Nat->Nat->St->Hp->Prop,(∃m,W 0 m j H)/\∀i m j H,W i m j H->
   ((LI lo n).stop i H/\F.nx j H)\/((LI lo n).go i H/\∃N:St->Hp->Prop,(∀U q,N U q->∃m',m' < m/\W (i+1) m' U q)/\∀x q,(LI lo n).yld i H x q->g x j q λV J=>Z {F with nx:=N,ct:=N,bk:=F.nx} V J):=by
 show(λi m j H=>m=n - i/\i<=n/\D i j H,(n,by simp,LB _,a0),?_);rintro i m j H ⟨rfl,a3,p⟩;by_cases O:i < n
 .show .inr (O,D (i+1),λU q a2=>(n - (i+1),⋯,rfl,O,a2),λx q y=>?_);let(e,y):=y;subst e y;show a1 i j _ O p
 .let e:i=n:=⋯;subst e;show .inl ⟨pA _,hd j H p⟩
abbrev R2:=V->V->Hp->VK->Prop
def yF (X:Cx) (f:Value->Value->Sem Value) (r:R2):Prop:=
 ∀(pins:!(Addr×Obj)) (s:Shared) (σ:St) (H:Hp) (x y:V) (v u:Value) (Q:VK),vC X pins σ H s->DC x v->DC y u->r x y H Q->
  wpAny (model X.prog X.w) X.A (f v u) (EP X pins σ Q) X.xe s
def MV (X:Cx) (f:Value->Sem Value) (r:V->Hp->VK->Prop):Prop:=
 ∀(pins:!(Addr×Obj)) (s:Shared) (σ:St) (H:Hp) (x:V) (v:Value) (Q:VK),vC X pins σ H s->DC x v->r x H Q->
  wpAny (model X.prog X.w) X.A (f v) (EP X pins σ Q) X.xe s
def xE (X:Cx) (f:Value) (r:!V->Hp->VK->Prop):Prop:=
 ∀(pins:!(Addr×Obj)) (s:Shared) (σ:St) (H:Hp) (xs:!V) (us:!Value) (Q:VK),vC X pins σ H s->zC xs us->r xs H Q->
  wpAny (model X.prog X.w) X.A (call f us) (EP X pins σ Q) X.xe s
def TruR (X:Cx) (r:V->Hp->(Bool->Hp->Prop)->Prop):Prop:=
 ∀(pins:!(Addr×Obj)) (s:Shared) (σ:St) (H:Hp) (x:V) (v:Value) (Q:Bool->Hp->Prop),vC X pins σ H s->DC x v->r x H Q->
  wpAny (model X.prog X.w) X.A (truthy v) (TP X pins σ Q) X.xe s
def wK (r:R2) (ta tb:TE):TE:=λσ H Q=>ta σ H λx H1=>tb σ H1 λy H2=>r x y H2 Q
def NV (r:V->Hp->VK->Prop) (ta:TE):TE:=λσ H Q=>ta σ H λx H1=>r x H1 Q
def rI (C:Int->Int->Prop) (g:Int->Int->V):R2:=λx y H Q=>∃i j,x=.int i/\y=.int j/\C i j/\Q (g i j) H
def oJ (g:Int->Int->V):R2:=λx y H Q=>∃i j,x=.int i/\y=.int j/\Q (g i j) H
def rU (g:Int->V):V->Hp->VK->Prop:=λx H Q=>∃i,x=.int i/\Q (g i) H
section
variable {X:Cx} {a b c:Expr} {ta tb tc:TE} {pos:Pos}
theorem xK (a0:PE X a ta) (a1:PE X b tb) {D:!(Addr×Obj)} {s:Shared} {q:St} {H:Hp} {R:V->V->Hp->Prop} (U:vC X D q H s)
  (h:ta q H λx J=>tb q J λy j=>R x y j) {Q:Value->Shared->Prop} {f:Value->Value->Sem Value}
  (a2:∀v u F x y j,vC X D q j F->DC x v->DC y u->R x y j->wpAny (model X.prog X.w) X.A (f v u) Q X.xe F):
  wpAny (model X.prog X.w) X.A (eval a X.env) (λv a7=>wpAny (model X.prog X.w) X.A (eval b X.env) (λu a8=>wpAny (model X.prog X.w) X.A (f v u) Q X.xe a8) X.xe a7) X.xe s:=by
 show cD (a0 D s q H _ U h) λv s1 O=>?_;let(x,J,W,a5,a3):=O;show cD (a1 D s1 q J _ W a3) λu F O=>?_;let(y,j,Z,a6,a4):=O;show a2 v u F x y j Z a5 a6 a4
theorem KC {j:Operator} {r:R2} (V:yF X (binaryOp j) r) (O:PE X a ta) (U:PE X b tb):PE X (.BinOp a j b pos) (wK r ta tb):=by
 intro W s a2 H Q F h;show wpAny_BinOp (xK O U F h λv u a1 x y D J Z a0 q=>V W a1 a2 D x y v u Q J Z a0 q)
theorem gP {j:UnaryOp} {r:V->Hp->VK->Prop} (W:MV X (unaryOp j) r) (U:PE X a ta):PE X (.UnaryOp j a pos) (NV r ta):=by
 intro q s D H Q J h;show UnaryOp_ (cD (U q s D H _ J h) λv s1 ⟨x,F,O,a0,Z⟩=>W q s1 D F x v Q O a0 Z)
theorem eN {f:Value->Value->Sem Value} {C:Int->Int->Prop} {g:Int->Int->Int}
  (J:∀(i j:Int) (t u:Tok) (s:Shared) (Q:Value->Shared->Prop) (E:Value->Shared->Prop),C i j->Q (.int (g i j) s.toks) {s with toks:=s.toks+1}->wpAny (model X.prog X.w) X.A (f (.int i t) (.int j u)) Q E s):
  yF X f (rI C λi j=>.int (g i j)):=by
 intro V s W H x y v u Q D O U h;let(i,j,rfl,rfl,F,q):=h;let(t,rfl):=O;let(t',rfl):=U;show J i j t t' s _ _ F (.int (g i j),H,D.tok _,⟨_,rfl⟩,q)
theorem fN {f:Value->Value->Sem Value} {g:Int->Int->Int}
  (F:∀(i j:Int) (t u:Tok) (s:Shared) (Q:Value->Shared->Prop) (E:Value->Shared->Prop),Q (.int (g i j) s.toks) {s with toks:=s.toks+1}->wpAny (model X.prog X.w) X.A (f (.int i t) (.int j u)) Q E s):
  yF X f (oJ λi j=>.int (g i j)):=by
 intro U s V H x y v u Q D J O h;let(i,j,rfl,rfl,q):=h;let(t,rfl):=J;let(t',rfl):=O;show F i j t t' s _ _ (.int (g i j),H,D.tok _,⟨_,rfl⟩,q)
theorem gN {f:Value->Value->Sem Value} {g:Int->Int->Bool}
  (F:∀(i j:Int) (t u:Tok) (s:Shared) (Q:Value->Shared->Prop) (E:Value->Shared->Prop),Q (.bool (g i j)) s->wpAny (model X.prog X.w) X.A (f (.int i t) (.int j u)) Q E s):
  yF X f (oJ λi j=>.bl (g i j)):=by
 intro U s V H x y v u Q D J O h;let(i,j,rfl,rfl,q):=h;let(t,rfl):=J;let(t',rfl):=O;show F i j t t' s _ _ (.bl (g i j),H,D,rfl,q)
def iN (i j:Int):Prop:=0 < j/\j < 1073741824
def jN (i j:Int):Prop:=0<=j/\j<=1000000/\i.natAbs < 2 ^ 64
def MI (i j:Int):Prop:=(-(2 ^ 64) < i/\i < 2 ^ 64)\/(-(2 ^ 64) < j/\j < 2 ^ 64)
theorem MI.ok {i j:Int} (h:MI i j):IntMulOk i j:=by
 let(q,D)||(q,D):=h
 .show .of_left (intBits_le_64 q D)
 .show .of_right (intBits_le_64 q D)
theorem two_pow_nn (k:Nat):(0:Int)<=2 ^ k:=by
 rw[two_pow_cast];show Int.natCast_nonneg _
theorem nF:yF X (binaryOp .Add) (oJ λi j=>.int (i+j)):=fN λο ο ο ο ο ο ο q=>add_int q
theorem xQ:yF X (binaryOp .Sub) (oJ λi j=>.int (i - j)):=fN λο ο ο ο ο ο ο q=>sub_int q
theorem VH:yF X (binaryOp .Mult) (rI MI λi j=>.int (i * j)):=eN λο ο ο ο ο ο ο D q=>mul_int q D.ok
theorem pG:yF X (binaryOp .FloorDiv) (rI iN λi j=>.int (i / j)):=eN λi j ο ο ο ο ο D q=>by
 let F:(0:Int) < j:=D.1;let J:j < 1073741824:=D.2;show floordiv_int ⋯ (by rw[Int.fdiv_eq_ediv_of_nonneg i ⋯];show q) (.inl (PyProof.noPylong_small ⋯))
theorem FE:yF X (binaryOp .Mod) (rI (λο j=>0 < j) λi j=>.int (i % j)):=eN λi j ο ο ο ο ο D q=>by
 let F:(0:Int) < j:=D;show mod_int' ⋯ (by rw[Int.fmod_eq_emod_of_nonneg i ⋯];show q)
theorem yQ:yF X (binaryOp .Pow) (rI jN λi j=>.int (i ^ j.toNat)):=eN λο ο ο ο ο ο ο D q=>pow_int_small D.1 D.2.1 D.2.2 q
theorem OV:yF X (binaryOp .RShift) (rI (λο j=>0<=j) λi j=>.int (i / 2 ^ j.toNat)):=eN λi j ο ο ο ο ο D q=>
 rshift_int D (by rw[Int.fdiv_eq_ediv_of_nonneg i (two_pow_nn _)];show q)
end
def WH:V->V->Bool
 |.non,.non=>true|.non,.int _=>true|.int _,.non=>true|.non,.bl _=>true|.bl _,.non=>true|.non,.str _=>true|.str _,.non=>true
 |.int _,.int _=>true|.bl _,.bl _=>true|.str _,.str _=>true|.byt _,.byt _=>true
 |.int _,.str _=>true|.str _,.int _=>true|.bl _,.str _=>true|.str _,.bl _=>true
 |_,_=>false
def rEq:R2:=λx y H Q=>WH x y=true/\Q (.bl (decide (x=y))) H
def rNe:R2:=λx y H Q=>WH x y=true/\Q (.bl (not (decide (x=y)))) H
theorem PV {i j:Int}:decide (V.int i=V.int j)=(i == j):=by
 rw[YB];simp
theorem QV {i j:Bool}:decide (V.bl i=V.bl j)=(i == j):=by
 rw[YB];simp
theorem RV {i j:Str}:decide (V.str i=V.str j)=(i == j):=by
 rw[YB];simp
theorem SV {i j:Array UInt8}:decide (V.byt i=V.byt j)=(i.toList == j.toList):=by
 rw[YB];cases i;cases j;simp
section
variable {X:Cx} {a b c:Expr} {ta tb tc:TE} {pos:Pos}
theorem GE {D:!(Addr×Obj)} {F:St} {H:Hp} {s:Shared} {Q:VK} {k j:Bool} (J:vC X D F H s) (q:Q (.bl k) H) (e:k=j):EP X D F Q (.bool j) s:=by
 subst e;show(.bl k,H,J,rfl,q)
theorem bF:yF X (compareOp .Eq) rEq:=by
 intro U s V H x y v u Q D O F h;let(J,q):=h;cases x with
 |non=>
  cases O;cases y with
  |non=>cases F;show PySem.EqNone.eq_none_none (GE D q (by simp))
  |bl j=>cases F;show PySem.EqNone.eq_none_bool (GE D q (by simp))
  |int j=>let(t',rfl):=F;show PySem.EqNone.eq_none_int (GE D q (by simp))
  |str j=>let(t',rfl):=F;show PySem.EqNone.eq_none_str (GE D q (by simp))
  |_=>show absurd (show false=true from J) lA
 |bl i=>
  cases O;cases y with
  |non=>cases F;show PySem.EqNone.eq_bool_none (GE D q (by simp))
  |bl j=>cases F;show eq_bool (GE D q QV)
  |str j=>let(t',rfl):=F;show PySem.EqMixed.eq_bool_str (GE D q (by simp))
  |_=>show absurd (show false=true from J) lA
 |int i=>
  let(t,rfl):=O;cases y with
  |non=>cases F;show PySem.EqNone.eq_int_none (GE D q (by simp))
  |int j=>let(t',rfl):=F;show eq_int (GE D q PV)
  |str j=>let(t',rfl):=F;show PySem.EqMixed.eq_int_str (GE D q (by simp))
  |_=>show absurd (show false=true from J) lA
 |str i=>
  let(t,rfl):=O;cases y with
  |non=>cases F;show PySem.EqNone.eq_str_none (GE D q (by simp))
  |bl j=>cases F;show PySem.EqMixed.eq_str_bool (GE D q (by simp))
  |int j=>let(t',rfl):=F;show PySem.EqMixed.eq_str_int (GE D q (by simp))
  |str j=>let(t',rfl):=F;show eq_str (GE D q RV)
  |_=>show absurd (show false=true from J) lA
 |byt i=>
  let(t,rfl):=O;cases y with
  |byt j=>let(t',rfl):=F;show PySem.W.eq_bytes (GE D q SV)
  |_=>show absurd (show false=true from J) lA
 |_=>cases y<;>show absurd (show false=true from J) lA
theorem iP:yF X (compareOp .NotEq) rNe:=by
 intro U s V H x y v u Q D O F h;let(J,q):=h;cases x with
 |non=>
  cases O;cases y with
  |non=>cases F;show PySem.EqNone.ne_none_none (GE D q (by simp))
  |bl j=>cases F;show PySem.EqNone.ne_none_bool (GE D q (by simp))
  |int j=>let(t',rfl):=F;show PySem.EqNone.ne_none_int (GE D q (by simp))
  |str j=>let(t',rfl):=F;show PySem.EqNone.ne_none_str (GE D q (by simp))
  |_=>show absurd (show false=true from J) lA
 |bl i=>
  cases O;cases y with
  |non=>cases F;show PySem.EqNone.ne_bool_none (GE D q (by simp))
  |bl j=>cases F;show ne_bool (GE D q (congrArg not QV))
  |str j=>let(t',rfl):=F;show PySem.EqMixed.ne_bool_str (GE D q (by simp))
  |_=>show absurd (show false=true from J) lA
 |int i=>
  let(t,rfl):=O;cases y with
  |non=>cases F;show PySem.EqNone.ne_int_none (GE D q (by simp))
  |int j=>let(t',rfl):=F;show ne_int (GE D q (congrArg not PV))
  |str j=>let(t',rfl):=F;show PySem.EqMixed.ne_int_str (GE D q (by simp))
  |_=>show absurd (show false=true from J) lA
 |str i=>
  let(t,rfl):=O;cases y with
  |non=>cases F;show PySem.EqNone.ne_str_none (GE D q (by simp))
  |bl j=>cases F;show PySem.EqMixed.ne_str_bool (GE D q (by simp))
  |int j=>let(t',rfl):=F;show PySem.EqMixed.ne_str_int (GE D q (by simp))
  |str j=>let(t',rfl):=F;show ne_str (GE D q (congrArg not RV))
  |_=>show absurd (show false=true from J) lA
 |byt i=>
  let(t,rfl):=O;cases y with
  |byt j=>let(t',rfl):=F;show PySem.W.ne_bytes (GE D q (congrArg not SV))
  |_=>show absurd (show false=true from J) lA
 |_=>cases y<;>show absurd (show false=true from J) lA
theorem jP:yF X (compareOp .Lt) (oJ λi j=>.bl (decide (i < j))):=gN λο ο ο ο ο ο ο q=>lt_int q
theorem kN:yF X (compareOp .GtE) (oJ λi j=>.bl (decide (j<=i))):=gN λο ο ο ο ο ο ο q=>ge_int q
theorem yG:yF X (compareOp .Is) (λx y H Q=>y=.non/\Q (.bl (decide (x=.non))) H):=by
 intro J s O H x y v u Q D j F h;let(rfl,q):=h;cases F;show is_none_gen (GE D q ?_);cases x<;>first
  |(cases j;rfl)
  |(let(t,rfl):=j;rfl)
theorem wH:yF X (compareOp .IsNot) (λx y H Q=>y=.non/\Q (.bl (not (decide (x=.non)))) H):=by
 intro J s O H x y v u Q D j F h;let(rfl,q):=h;cases F;show isnot_none_gen (GE D q ?_);cases x<;>first
  |(cases j;rfl)
  |(let(t,rfl):=j;rfl)
theorem rC (b:Expr) {j:CmpOp} (h:j≠.In:=by decide) (F:j≠.NotIn:=by decide):behindInMarks j b=false:=by
 let q:(j == CmpOp.In)=false:=by cases j<;>first|rfl|exact absurd rfl h
 let D:(j == CmpOp.NotIn)=false:=by cases j<;>first|rfl|exact absurd rfl F
 cases b<;>simp[behindInMarks,q,D]
theorem xH {j:CmpOp} {r:R2} (W:yF X (compareOp j) r) (O:PE X a ta) (U:PE X b tb) (V:behindInMarks j b=false):PE X (.Compare a [j] [b] pos) (wK r ta tb):=by
 intro Z s a3 H Q F h;show wpAny_Compare1 (xK O U F h λv u a2 x y D J a0 a1 q=>W Z a2 a3 D x y v u Q J a0 a1 q) V
def pJ (t:TE):TT:=λσ H Q=>t σ H λx H'=>∃k,x=.bl k/\Q k H'
theorem CD {j:CmpOp} {r:R2} (a3:yF X (compareOp j) r) (a0:PE X a ta) (a1:PE X b tb) (a2:behindInMarks j b=false):PT X (.Compare a [j] [b] pos) (pJ (wK r ta tb)):=by
 intro q s D H Q U h;show wpAny_isTrue_Compare1 (cD (a0 q s D H _ U h) λv s1 ⟨x,F,V,a7,a4⟩=>cD (a1 q s1 D F _ V a4) λu aa ⟨y,J,W,a8,a5⟩=>
  cD (a3 q aa D J x y v u _ W a7 a8 a5) λc ab ⟨ac,O,Z,a9,k,e,a6⟩=>?_) a2
 subst e;cases a9;show wpAny_truthy_bool (O,Z,a6)
def TruV (K:PySem.W.Frag) (x:V) (H:Hp) (k:Bool):Prop:=
 match x with
 |.non=>k=false
 |.bl b=>k=b
 |.int i=>k=(i != 0)
 |.str y=>y.length<=sizeLine/\k=((y.length:Int) != 0)
 |.byt y=>y.size<=sizeLine/\k=((y.size:Int) != 0)
 |.ref p=>(∃xs,uC K H p xs/\k= not xs.isEmpty)\/(∃xs,VC K H p xs/\k= not xs.isEmpty)\/∃kvs,H p>(.dK kvs)/\k= not kvs.isEmpty
 |_=>False
theorem kG:(sizeLine:Nat) < 2 ^ 63:=by rw[MB];decide
theorem XE {x:V} {us:!Value} (r:zC [x] us):∃u,us=[u]/\DC x u:=by
 cases r with
 |cons j q=>cases q;show(_,rfl,j)
theorem lN:xE X (.type "int") (λxs H Q=>(∃i,xs=[.int i]/\Q (.int i) H)\/∃k,xs=[.bl k]/\Q (.int (if k then 1 else 0)) H):=by
 intro F s J H xs us Q j r h;let(i,rfl,q)||(k,rfl,q):=h
 .let(u,rfl,t,rfl):=XE r;show call_int_int (.int i,H,j,⟨_,rfl⟩,q)
 .let(u,rfl,D):=XE r;cases D;show call_int_bool (.int (if k then 1 else 0),H,j.tok _,⟨_,rfl⟩,q)
def zQ (K:PySem.W.Frag) (x:V) (H:Hp) (n:Nat):Prop:=
 match x with
 |.str y=>y.length<=sizeLine/\n=y.length
 |.byt y=>y.size<=sizeLine/\n=y.size
 |.ref p=>(∃xs,uC K H p xs/\n=xs.length)\/∃xs,VC K H p xs/\n=xs.length
 |_=>False
theorem BE:xE X (.builtin "len") (λxs H Q=>∃x n,xs=[x]/\zQ X.K x H n/\Q (.int n) H):=by
 intro a0 s a1 H xs us Q D r h;let(x,n,rfl,e,q):=h;let(u,rfl,O):=XE r;let W:=kG;let Z:sizeLine=16777216:=MB;cases x with
 |str y=>
  let(t,rfl):=O;obtain⟨U,j⟩:y.length<=sizeLine/\n=y.length:=e;subst j;show len_str ⋯ (.int _,H,D.tok _,⟨_,rfl⟩,q)
 |byt y=>
  let(t,rfl):=O;obtain⟨U,j⟩:y.size<=sizeLine/\n=y.size:=e;subst j;show PySem.W.len_bytes ⋯ (.int _,H,D.tok _,⟨_,rfl⟩,q)
 |ref p=>
  cases O;let j:(∃xs,uC X.K H p xs/\n=xs.length)\/∃xs,VC X.K H p xs/\n=xs.length:=e;let(xs,J,j)||(xs,J,j):=j
  .subst j;let(V,r',pl,hz):=D.list J;let F:=r'.length;show Calls.call_len_list pl.isList (by simp only[CA];omega) (.int xs.length,H,D.tok _,⟨_,by simp only[CA];rw[F]⟩,q)
  .subst j;let(V,r',pl,hz):=D.tuple J;let F:=r'.length;show len_tuple pl (by simp only[CA];omega) (.int xs.length,H,D.tok _,⟨_,by simp only[CA];rw[F]⟩,q)
 |_=>show (show False from e).elim
end
structure WG (h:Heap) (x dx C:Addr) (mA:Str->Option Value):Prop where
 obj:h.get? x>(PySem.W.instObj C dx)
 ns:h.Ns1 dx mA
 ne:dx≠x
set_option tactic.hygienic true in
theorem rZ {h:Heap} {dx:Addr} {mA:Str->Option Value} (n:h.Ns1 dx mA):∃od,h.get? dx>od/\∀name,PySem.W.lookIn name od>(mA name):=by
 let(o,es,ep,ho,hd,hk,_,hm):=n;show(o,ho,λname=>?_);let e:=hm name;unfold nsFind findBy at e;rw[<-Array.find?_toList] at e;unfold PySem.W.lookIn;rw[hd];dsimp only
 split
 .rename_i y q;rw[q] at e;show congrArg some e
 .rename_i q;rw[q] at e;let a:es.toList.any (·.refKey)=false:=by
   rw[List.any_eq_false];intro y hy;let(z,t,hkey):=hk y (Array.mem_toList_iff.mp hy);simp[DictEntry.refKey,hkey]
  let a':¬es.toList.any (·.refKey)=true:=by rw[a];show lA
  rw[gA a'];show congrArg some e
theorem WG.look {h:Heap} {x D C:Addr} {F:Str->Option Value} (q:WG h x D C F):∃j,PySem.W.InstAt h x (PySem.W.instObj C D) C (some j)/\∀name,PySem.W.lookIn name j>(F name):=
 let ⟨j,ho,hl⟩:=rZ q.ns
 (j,(q.obj,rfl,rfl,ho),hl)
section
variable {prog:Program} {w:World} {A:Around} {E:Value->Shared->Prop} {s:Shared} {K:PySem.W.Frag} {x dx C f:Addr} {mA:Str->Option Value} {name:Str} {v:Value}
theorem sZ {D:Bool} {Q:Value->Shared->Prop} (X:K.In s.heap) (j:WG s.heap x dx C mA) (J:PySem.W.plainGet K C name=true) (hh:PySem.W.hasDictIn K C=true)
  (F:PySem.W.findIn K (.ref C) name>none) (U:mA name>v) (V:PySem.W.handedIn v=true) (h:Q v {s with toks:=s.toks+1}):
  wpAny (model prog w) A (getAttr (.ref x) name D) Q E s:=by
 let(W,q,O):=j.look;show PySem.W.get_value X q (PySem.W.plainGet_of J).1 (PySem.W.findObj_own hh F rfl (by rw[O,U])) V h
theorem uZ {pl:Sem Bool} {Q:Value×!Value->Shared->Prop} (X:K.In s.heap) (q:WG s.heap x dx C mA) (j:PySem.W.plainGet K C name=true)
  (F:PySem.W.findIn K (.ref C) name>(↑f)) (O:PySem.W.isFn K (.ref f)=true) (U:mA name=none) (h:Q (.ref f,[.ref x]) s):
  wpAny (model prog w) A (getMethod (.ref x) name pl) Q E s:=by
 let(V,D,J):=q.look;show PySem.W.method_fn X D (PySem.W.plainGet_of j).1 (PySem.W.plainGet_of j).2 F (ZB.mp O) (by change (PySem.W.lookIn name V).map (·.isSome)>false;rw[J,U];rfl) h
theorem vZ {ns:!Str} {Q:Unit->Shared->Prop} (X:K.In s.heap) (j:WG s.heap x dx C mA)
  (a0:PySem.W.findIn K (.ref C) "__setattr__">(some (.builtin "object.__setattr__"))) (Z:PySem.W.plainOver K C=true) (a1:PySem.W.takerIn K C name>none) (hh:PySem.W.hasDictIn K C=true)
  (a2:PySem.Within mA ns) (hsz:ns.length<=sizeLine)
  (h:∀h',WG h' x dx C (λy=>if y=name then some v else mA y)->Heap.SameBut dx s.heap h'->Q ⟨⟩ {s with heap:=h',toks:=s.toks+2}):
  wpAny (model prog w) A (setAttr (.ref x) name v) Q E s:=by
 let(a9,q,a7):=j.look;show PySem.W.set_plain X q a0 (PySem.W.osa_open (s:={s with toks:=s.toks+1}) (r:=none) X q Z a1 λb=>?_);let(a4,J,U):=PySem.W.any_some hh;let a3:s.heap.get? x>(.ref C,some dx,.plain, #[]):=j.obj;show eA (vA (eA (eA (wpAny_loadPart a3 (eA (PySem.W.Looks.here (s:={s with toks:=s.toks+1}) (PySem.W.looks_clsIn X J) ?_))))));rw[U];show vA (a:=some dx) (eA (vA (eA ?_)));show wpAny_nsSet1 (s:={s with toks:=s.toks+1}) j.ns λh' D F=>?_;let(a8,a6,a5,W,V,O):=D.count (PySem.Within.cons name v a2);show eA (wpAny_lookBehind W (by rw[V];show pastItsLine_dict (kB O (by rw[NA];omega))) ?_);show vA (h _ ((F.2 _ (Ne.symm j.ne)).trans j.obj,D,j.ne) F)
theorem wZ {R:Result->Shared->Prop} {vs:!Value} {j:!(Str×Value)} (X:K.In s.heap) (F:PySem.W.makesIn K C=true)
  (D:PySem.W.findIn K (.ref C) "__init__">(↑f)) (q:PySem.W.typeIn K (.ref f)>(.type "function"))
  (h:codeAny (model prog w) (A.under (.builtin "type.__call__" ⟨.ref C::vs,j⟩)) (.call (.ref f) ⟨.ref (s.heap.objs.size+1)::vs,j⟩) (PySem.W.InitBack (s.heap.objs.size+1) R)
   {s with heap:=(s.heap.push PySem.W.emptyDict).push (PySem.W.instObj C s.heap.objs.size)}):
  codeAny (model prog w) A (.call (.ref C) ⟨vs,j⟩) R s:=by
 let(hh,g,O,t,U):=s;show PySem.W.make_core (PySem.W.makes_of X F) (PySem.W.looks_findIn X D) (λJ=>PySem.W.bind_fn X J q) (.inl rfl) h
end
def JC (f:Str) (v:V):!(Str×V)->!(Str×V)
 |[]=>[(f,v)]
 |(g,x)::r=>if g=f then (g,v)::r else (g,x)::JC f v r
theorem nN (f g:Str) (v:V):∀fs:!(Str×V),(JC f v fs).lookup g=if g=f then some v else fs.lookup g
 |[]=>by
  change List.lookup g [(f,v)]=_;by_cases h:g=f
  .let hb:(g == f)=true:=ZB.mpr h;simp only[List.lookup,hb,iA h]
  .let hb:(g == f)=false:=beq_eq_false_iff_ne.mpr h;simp only[List.lookup,hb,gA h]
 |(k,x)::r=>by
  let ih:=nN f g v r;rw[show JC f v ((k,x)::r)=(if k=f then (k,v)::r else (k,x)::JC f v r) from rfl];by_cases hk:k=f
  .rw[iA hk];by_cases h:g=k
   .let hb:(g == k)=true:=ZB.mpr h;simp only[List.lookup,hb,iA (h.trans hk)]
   .let hb:(g == k)=false:=beq_eq_false_iff_ne.mpr h;simp only[List.lookup,hb,gA (λe:g=f=>h (e.trans hk.symm))]
  .rw[gA hk];by_cases h:g=k
   .let hb:(g == k)=true:=ZB.mpr h;simp only[List.lookup,hb,gA (λe:g=f=>hk (h.symm.trans e))]
   .let hb:(g == k)=false:=beq_eq_false_iff_ne.mpr h;simp only[List.lookup,hb];show ih
theorem AQ (f:Str) (v:V):∀fs:!(Str×V),f∈(JC f v fs).map (·.1)/\∀g,g∈fs.map (·.1)->g∈(JC f v fs).map (·.1)
 |[]=>⟨by simp[JC],λg h=>by simp at h⟩
 |(k,x)::r=>by
  let(i1,i2):=AQ f v r;rw[show JC f v ((k,x)::r)=(if k=f then (k,v)::r else (k,x)::JC f v r) from rfl];by_cases hk:k=f
  .rw[iA hk];subst hk;show⟨by simp,λg h=>by simpa using h⟩
  .rw[gA hk];show⟨?_,λg h=>?_⟩
   .rw[AA];show kA _ i1
   .rw[AA] at h ⊢;let e||e:=xA.mp h
    .show xA.mpr (.inl e)
    .show kA _ (i2 g e)
theorem TV (f:Str) (v:V):∀fs:!(Str×V),(JC f v fs).length<=fs.length+1
 |[]=>by simp[JC]
 |(k,x)::r=>by
  let ih:=TV f v r;rw[show JC f v ((k,x)::r)=(if k=f then (k,v)::r else (k,x)::JC f v r) from rfl];by_cases hk:k=f
  .rw[iA hk,NA,NA];omega
  .rw[gA hk,NA,NA];omega
theorem ME.some_of {v:V} {o:Option Value} (r:ME (some v) o):∃u,o>u/\DC v u:=by
 cases o with
 |none=>show (show False from r).elim
 |some u=>show(u,rfl,r)
theorem ME.none_of {o:Option Value} (r:ME none o):o=none:=by
 cases o with
 |none=>rfl
 |some u=>show (show False from r).elim
theorem xZ {v:V} {u:Value} (r:DC v u):PySem.W.handedIn u=true:=by
 cases v with
 |non=>cases (show u=Value.none from r);rfl
 |bl b=>cases (show u=Value.bool b from r);rfl
 |int i=>let(t,e):=(show ∃t,u=Value.int i t from r);cases e;rfl
 |str x=>let(t,e):=(show ∃t,u=Value.str x t from r);cases e;rfl
 |byt b=>let(t,e):=(show ∃t,u=Value.bytes b t from r);cases e;rfl
 |flt b=>let(t,e):=(show ∃t,u=Value.float b t from r);cases e;rfl
 |ref a=>cases (show u=Value.ref a from r);rfl
 |ty n=>cases (show u=Value.type n from r);rfl
section
variable {P:Program} {w:World} {H H':Hp} {h h':Heap} {a C dx:Addr} {fs fs':!(Str×V)}
theorem kP (F:qE P w H h) (e:H a>(.ins C dx fs)):∃j,WG h a dx C j/\(∀f,ME (fs.lookup f) (j f))/\PySem.Within j (fs.map (·.1))/\fs.length<=1000/\H dx>(.own a):=by
 let(D,J,ne,ob,j,n,r,q):=(show MC P w H h a (.ins C dx fs) from F a _ e)
 show(j,(ob,n,ne),r,q,J,D)
end
structure OG (K:PySem.W.Frag) (C:Addr):Prop where
 pg:PySem.W.plainGet K C Str.empty=true
 hd:PySem.W.hasDictIn K C=true
 po:PySem.W.plainOver K C=true
 sa:PySem.W.findIn K (.ref C) "__setattr__">(some (.builtin "object.__setattr__"))
theorem OG.get {K:PySem.W.Frag} {C:Addr} (c:OG K C) (f:Str):PySem.W.plainGet K C f=true:=c.pg
def pD (K:PySem.W.Frag) (C:Addr) (f:Str):Prop:=PySem.W.findIn K (.ref C) f>none
theorem pD.taker {K:PySem.W.Frag} {C:Addr} {f:Str} (n:pD K C f):PySem.W.takerIn K C f>none:=by
 unfold PySem.W.takerIn;rw[show PySem.W.findIn K (.ref C) f>none from n]
 rfl
structure XG (K:PySem.W.Frag) (C:Addr) (m:Str) (f:Addr):Prop where
 at_:PySem.W.findIn K (.ref C) m>(↑f)
 fn:PySem.W.isFn K (.ref f)=true
 kp:PySem.W.keepIn K (.ref f)=true
section
variable {X:Cx} {pins:!(Addr×Obj)} {σ:St} {H:Hp} {s:Shared} {a C dx:Addr} {fs:!(Str×V)} {f:Str} {v:V} {A:Around} {E:Value->Shared->Prop}
theorem yZ {b:Bool} {Q:Value->Shared->Prop} (j:vC X pins σ H s) (e:H a>(.ins C dx fs)) (c:OG X.K C) (n:pD X.K C f) (l:fs.lookup f>v)
  (h:∀u s',vC X pins σ H s'->DC v u->Q u s'):wpAny (model X.prog X.w) A (getAttr (.ref a) f b) Q E s:=by
 let(J,D,r,_,_,_):=kP j.hok e;let(u,F,q):=ME.some_of (v:=v) (o:=J f) (by rw[<-l];show r f);show sZ j.kIn D (c.get f) c.hd n F (xZ q) (h u _ (j.tok _) q)
theorem UV {m:Str} {g:Addr} {pl:Sem Bool} {Q:Value×!Value->Shared->Prop} (j:vC X pins σ H s) (e:H a>(.ins C dx fs)) (c:OG X.K C) (k:XG X.K C m g) (l:fs.lookup m=none)
  (h:Q (.ref g,[.ref a]) s):wpAny (model X.prog X.w) A (getMethod (.ref a) m pl) Q E s:=by
 let(F,q,r,_,_,_):=kP j.hok e;let D:F m=none:=ME.none_of (by rw[<-l];show r m);show uZ j.kIn q (c.get m) k.at_ k.fn D h
theorem zZ {y:V} {u:Value} {Q:Unit->Shared->Prop} (j:vC X pins σ H s) (e:H a>(.ins C dx fs)) (c:OG X.K C) (n:pD X.K C f) (a3:fs.length < 1000) (a1:DC y u)
  (h:∀s',vC X pins σ (upd H a (.ins C dx (JC f y fs))) s'->Q ⟨⟩ s'):wpAny (model X.prog X.w) A (setAttr (.ref a) f u) Q E s:=by
 let(U,D,r,W,_,O):=kP j.hok e;let hz:(fs.map (·.1)).length<=sizeLine:=by rw[fA,MB];omega
 show vZ j.kIn D c.sa c.po n.taker c.hd W hz λh' F a2=>h _ ?_;let hd:∃o,h'.get? dx>o:=let ⟨o,_,_,e',_⟩:=F.ns;⟨o,e'⟩
 show j.write (x:=a) (e:=dx) (by rw[e];show True.intro) (.inr O) (λb q Z J=>(a2.2 b Z).trans J) hd ?_;show(by rw[sC D.ne];show O,?_,D.ne,F.obj,_,F.ns,λg=>?_,λg a0=>?_)
 .have:=TV f y fs;omega
 .change ME ((JC f y fs).lookup g) (if g=f then some u else U g);rw[nN];by_cases q:g=f
  .rw[iA q,iA q];show a1
  .rw[gA q,gA q];show r g
 .by_cases q:g=f
  .rw[q];show (AQ f y fs).1
  .show (AQ f y fs).2 g (W g λJ=>a0 ?_);change (if g=f then some u else U g)=none;rw[gA q];show J
theorem vC.made (D:vC X pins σ H s):vC X pins σ (upd (upd H s.heap.objs.size (.own (s.heap.objs.size+1))) (s.heap.objs.size+1) (.ins C s.heap.objs.size []))
  {s with heap:=(s.heap.push PySem.W.emptyDict).push (PySem.W.instObj C s.heap.objs.size)}:=by
 let j:(s.heap.push PySem.W.emptyDict).get? s.heap.objs.size>PySem.W.emptyDict:=HA s.heap rfl;let J:((s.heap.push PySem.W.emptyDict).push (PySem.W.instObj C s.heap.objs.size)).get? (s.heap.objs.size+1)>(PySem.W.instObj C s.heap.objs.size):=by
  have:=HA (s.heap.push PySem.W.emptyDict) (o:=PySem.W.instObj C s.heap.objs.size) rfl;rwa[Heap.size_push] at this
 let O:(s.heap.push PySem.W.emptyDict).Ns s.heap.objs.size (λο=>none):=(PySem.W.emptyDict, #[],_,j,rfl,(λe U=>absurd U (by simp)),λο=>rfl)
 let F:=D.laid (a:=s.heap.objs.size) (o:=.own (s.heap.objs.size+1)) (h':=s.heap.push PySem.W.emptyDict) (t':=s.toks) (λb u q=>uA _ q) (pA _) ⟨_,j⟩;show F.laid (a:=s.heap.objs.size+1) (o:=.ins C s.heap.objs.size []) (t':=s.toks) (λb u q=>uA _ q) (Nat.le_of_eq (Heap.size_push _ _)) ?_;let ne:s.heap.objs.size≠s.heap.objs.size+1:=SA (Nat.lt_succ_self _);show(by rw[sC ne,HC],LB _,ne,J,λο=>none,(Heap.Ns1.of_empty O).at λo q=>uA _ q,λο=>True.intro,λy V=>absurd rfl V)
theorem AZ {prog:Program} {w:World} {j:Env} {e:Expr} {f:Str} {D:Pos} {s:Shared} {Q:Value->Shared->Prop} (q:attributeBase e f j (eval e j)=eval e j)
  (h:wpAny (model prog w) A (eval e j) (λo F=>wpAny (model prog w) A (getAttr o f true) Q E F) E s):wpAny (model prog w) A (eval (.Attribute e f D) j) Q E s:=
 Attribute_any_ h (by rw[arm_eval_Attribute,q])
end
def oN (K:PySem.W.Frag) (ta:TE) (f:Str):TE:=λσ H Q=>ta σ H λx H1=>∃a C dx fs v,x=.ref a/\H1 a>(.ins C dx fs)/\OG K C/\pD K C f/\fs.lookup f>v/\Q v H1
def pN (K:PySem.W.Frag) (ta tv:TE) (f:Str):TS:=λD σ H=>tv σ H λy H1=>ta σ H1 λx H2=>∃a C dx fs,x=.ref a/\H2 a>(.ins C dx fs)/\OG K C/\pD K C f/\fs.length < 1000/\
 D.nx σ (upd H2 a (.ins C dx (JC f y fs)))
section
variable {X:Cx} {o e value:Expr} {f:Str} {pos pos' tpos:Pos} {ta tv:TE}
theorem YC (V:PE X e ta) (U:attributeBase e f X.env (eval e X.env)=eval e X.env):PE X (.Attribute e f pos) (oN X.K ta f):=by
 intro W s a2 H Q D h;show AZ U (cD (V W s a2 H _ D h) λu s1 a1=>?_);let(x,j,F,a0,a,C,a3,fs,v,ex,O,c,n,l,q):=a1;subst ex;obtain rfl:u=Value.ref a:=a0;show yZ F O c n l λa5 a4 J Z=>(v,j,J,Z,q)
theorem YG (Z:PE X o ta) (a1:PE X value tv) (a0:swapsWith value (some (.Attribute o f pos')) pos.line X.env=pure false):PS X (.Assign [.Attribute o f pos'] value pos) (pN X.K ta tv f):=by
 intro D s j H a7 J h;show plainObj_wpAny_Assign_Attribute (cD (a1 D s j H _ J h) λu s1 ⟨y,F,O,a5,q⟩=>cD (Z D s1 j F _ O q) λa2 aa a6=>?_) a0;let(x,a8,U,a4,a,C,a9,fs,ex,W,c,n,l,a3):=a6;subst ex;obtain rfl:a2=Value.ref a:=a4;show zZ U W c n l a5 λab V=>(j,_,V,a3)
end
section
variable {X:Cx} {pins:!(Addr×Obj)} {σ:St} {H:Hp} {s:Shared} {A:Around} {E:Value->Shared->Prop} {Q:Value->Shared->Prop} {c:Value} {b:Bool}
inductive YE (K:PySem.W.Frag) (H:Hp):V->Value->Prop where
 |non:YE K H .non (.type "NoneType")
 |bl (x:Bool):YE K H (.bl x) (.type "bool")
 |int (i:Int):YE K H (.int i) (.type "int")
 |str (x:Str):YE K H (.str x) (.type "str")
 |flt (x:UInt64):YE K H (.flt x) (.type "float")
 |lst {a:Addr} {xs:!V} (e:H a>(.lst xs)):YE K H (.ref a) (.type "list")
 |frz {a:Addr} {o:Obj} {xs:!V} (e:H a>(.frz o (.lst xs))):YE K H (.ref a) (.type "list")
 |tup {a:Addr} {xs:!V} (e:H a>(.tup xs)):YE K H (.ref a) (.type "tuple")
 |dK {a:Addr} {kvs:!(Key×V)} (e:H a>(.dK kvs)):YE K H (.ref a) (.type "dict")
 |dT {a:Addr} {kvs:!(!Key×V)} (e:H a>(.dT kvs)):YE K H (.ref a) (.type "dict")
 |ins {a C dx:Addr} {fs:!(Str×V)} (e:H a>(.ins C dx fs)) (cl:OG K C) (ha:PySem.W.findIn K (.ref C) "__class__">(some (.builtin "object.__class__")))
  (hn:PySem.W.specialIn K (.builtin "object.__class__") "__get__">(some (.builtin "getset_descriptor.__get__"))) (htk:PySem.W.takesIn K (.builtin "object.__class__")>true)
  (hm:PySem.W.mroIn K C (.type "object")>true):YE K H (.ref a) (.ref C)
theorem BZ {x:V} {u t:Value} (D:vC X pins σ H s) (F:DC x u) (ty:YE X.K H x t) (e:PySem.W.kitOne X.K t c>b) (h:∀Z,Q (.bool b) {s with toks:=Z}):
  wpAny (model X.prog X.w) A (call (.builtin "isinstance") [u,c]) Q E s:=by
 cases ty with
 |non=>cases (show u=Value.none from F);show PySem.W.kia_one PySem.W.kitx_none D.kIn True.intro e nofun h
 |bl y=>cases (show u=Value.bool y from F);show PySem.W.kia_one PySem.W.kitx_bool D.kIn True.intro e nofun h
 |int i=>let(t,q):=(show ∃t,u=Value.int i t from F);cases q;show PySem.W.kia_one PySem.W.kitx_int D.kIn True.intro e nofun h
 |str y=>let(t,q):=(show ∃t,u=Value.str y t from F);cases q;show PySem.W.kia_one PySem.W.kitx_str D.kIn True.intro e nofun h
 |flt y=>let(t,q):=(show ∃t,u=Value.float y t from F);cases q;show PySem.W.kia_one PySem.W.kitx_float D.kIn True.intro e nofun h
 |@lst a xs ea=>
  cases (show u=Value.ref a from F);let(_,_,n,_,J):=(show MC X.prog X.w H s.heap a (.lst xs) from D.hok a _ ea)
  show PySem.W.kia_one PySem.W.kitx_list D.kIn (_,J,rfl) e nofun h
 |@frz a ob xs ea=>
  cases (show u=Value.ref a from F);let(_,_,_,n,_,J):=(show MC X.prog X.w H s.heap a (.frz ob (.lst xs)) from D.hok a _ ea)
  show PySem.W.kia_one PySem.W.kitx_list D.kIn (_,J,rfl) e nofun h
 |@tup a xs ea=>
  cases (show u=Value.ref a from F);let(_,_,_,p):=(show MC X.prog X.w H s.heap a (.tup xs) from D.hok a _ ea)
  let(o,J,O,_):=p;show PySem.W.kia_one PySem.W.kitx_tuple D.kIn (o,J,O) e nofun h
 |@dK a kvs ea=>
  cases (show u=Value.ref a from F);let(_,_,vs,_,p):=(show MC X.prog X.w H s.heap a (.dK kvs) from D.hok a _ ea)
  let(o,es,ep,J,O,_):=p;show PySem.W.kia_one PySem.W.kitx_dict D.kIn (o,J,O.1) e nofun h
 |@dT a kvs ea=>
  cases (show u=Value.ref a from F);let(_,_,xs,_,o,es,ep,J,O,_):=(show MC X.prog X.w H s.heap a (.dT kvs) from D.hok a _ ea)
  show PySem.W.kia_one PySem.W.kitx_dict D.kIn (o,J,O.1) e nofun h
 |@ins a C dx fs ea cl ha hn htk hm=>
  cases (show u=Value.ref a from F);let(a0,W,_):=kP D.hok ea;let(a1,U,_):=W.look;show PySem.W.kia_one (PySem.W.kitx_own (cl.get _) cl.hd ha hn htk hm) D.kIn U e nofun h
end
structure FD (k:Nat) (A:Around):Prop where
 hd:A.handled=none
 dp:A.depth+3 * k+5 < recursionLimit
 un:A.units+16 * k+200 < cLine
theorem FD.mono {j k:Nat} {A:Around} (r:FD k A) (h:j<=k):FD j A:=(r.hd,by have:=r.dp;omega,by have:=r.un;omega)
theorem FD.deeper {k:Nat} {A:Around} (r:FD (k+1) A) (j:Env):FD k (A.deeper j):=
 (r.hd,by have:=r.dp;change A.depth+1+3 * k+5 < _;omega,by have:=r.un;change A.units+3+16 * k+200 < _;omega)
theorem CZ {A:Around} {C:Addr} {us:!Value} {j:!(Str×Value)}:(A.under (.builtin "type.__call__" ⟨.ref C::us,j⟩)).depth=A.depth+1:=by
 first|rfl|simp[Around.under,Code.weight,Code.isCreation,Code.isGuard,Code.isCaller,Code.frames,Code.isFrame,guardIds]
theorem DZ {A:Around} {C:Addr} {us:!Value} {j:!(Str×Value)}:(A.under (.builtin "type.__call__" ⟨.ref C::us,j⟩)).units=A.units+1:=by
 first|rfl|simp[Around.under,Code.cUnits,Code.frames,Code.isFrame]
theorem FD.make {k:Nat} {A:Around} (r:FD (k+1) A) (C:Addr) (us:!Value) (j:!(Str×Value)):FD k (A.under (.builtin "type.__call__" ⟨.ref C::us,j⟩)):=
 (r.hd,by have:=r.dp;rw[CZ];omega,by have:=r.un;rw[DZ];omega)
theorem FD.depth {k:Nat} {A:Around} (r:FD k A):A.depth < recursionLimit:=by have:=r.dp;omega
theorem FD.units {k:Nat} {A:Around} (r:FD k A):A.units+64 < cLine:=by have:=r.un;omega
def tNil:TA:=λο H Q=>Q [] H
def qJ (ta:TE) (tr:TA):TA:=λσ H Q=>ta σ H λx H1=>tr σ H1 λxs H2=>Q (x::xs) H2
section
variable {X:Cx} {e:Expr} {es:!Expr} {te:TE} {t:TA} {pos:Pos}
theorem wC:PA X [] tNil:=λο ο ο ο H Q I h=>Calls.spliced_nil ([],H,I,.nil,h)
theorem nC (W:PE X e te) (Z:PA X es t) (a0:starEach (e::es) X.env=(false,eval e X.env)::starEach es X.env:=by rfl):PA X (e::es) (qJ te t):=by
 intro q j s D H Q O h;rw[a0];change wpAny _ _ (spliced ((false,eval e X.env)::backTo q (starEach es X.env))) _ _ s;show Calls.spliced_cons (cD (W j s D H _ O h) λu s1 a5=>?_);let(x,F,U,a3,a1):=a5;show cD (Z q j s1 D F _ U a1) λus a6 ⟨xs,J,V,a4,a2⟩=>(x::xs,J,V,.cons a3 a4,a2)
def qN (t:TA):TE:=λσ H Q=>t σ H λxs H1=>xs.length<=sizeLine/\∀p,H1 p=none->Q (.ref p) (upd H1 p (.tup xs))
def rN (t:TA):TE:=λσ H Q=>t σ H λxs H1=>xs.length<=sizeLine/\∀p,H1 p=none->Q (.ref p) (upd H1 p (.lst xs))
theorem aF {x1} (h:PA X es t):PE X (.Tuple es x1 pos) (qN t):=by
 intro V s W H Q J U;show wpAny_Tuple_spliced (cD (h pos V s W H _ J U) λus s1 ⟨xs,j,D,r,F,q⟩=>⟨by rw[<-r.length];show F,?_⟩);let O:j s1.heap.objs.size=none:=D.hok.fresh (pA _);show(.ref s1.heap.objs.size,upd j s1.heap.objs.size (.tup xs),D.laid (t':=s1.toks) (λb u e=>uA _ e) (pA _) ?_,rfl,q _ O);show(F,us,r,(_,HA _ rfl,rfl,_,rfl))
theorem cF (h:PA X es t):PE X (.List es pos) (rN t):=by
 intro V s W H Q J U;show wpAny_List_spliced (cD (h pos V s W H _ J U) λus s1 ⟨xs,j,D,r,F,q⟩=>⟨by rw[<-r.length];show F,?_⟩);let O:j s1.heap.objs.size=none:=D.hok.fresh (pA _);show(.ref s1.heap.objs.size,upd j s1.heap.objs.size (.lst xs),D.laid (t':=s1.toks) (λb u e=>uA _ e) (pA _) ?_,rfl,q _ O);show(F,us,0,r,HA _ rfl)
end
abbrev Sp:=!V->Hp->VK->XK->Prop
abbrev CXT:=!Env->Hp->Shared->XK->Value->Shared->Prop
structure ZG (P:Program) (w:World) (K:PySem.W.Frag) (mg:Str->Option Value) (base:Heap) (A:Around) (outer:!Env) (s:Shared) (H:Hp):Prop where
 frames:A.frames>outer
 mod:Mod K mg base
 bs:∀b o,base.get? b>o->s.heap.get? b>o/\H b=none
 bsz:base.objs.size<=s.heap.objs.size
 funs:s.heap.FunFrames base outer
 frf:∀b∈aE outer,H b=none
 hok:qE P w H s.heap
 bare:AllBare s.gens
def CE (outer:!Env) (P:Program) (w:World) (H:Hp) (s:Shared) (Q:VK) (u:Value) (s':Shared):Prop:=
 ∃v H',s'.os=s.os/\AllBare s'.gens/\Un (aE outer) [] H H' s.heap s'.heap/\qE P w H' s'.heap/\DC v u/\Q v H'
def CR (CX:CXT) (outer:!Env) (P:Program) (w:World) (H:Hp) (s:Shared) (Q:VK) (E:XK) (r:Result) (s':Shared):Prop:=
 match r with
 |.ok (.ret u)=>CE outer P w H s Q u s'
 |.ok _=>False
 |.error e=>CX outer H s E e s'
structure QE (P:Program) (w:World) (K:PySem.W.Frag) (mg:Str->Option Value) (base:Heap) (CX:CXT) (k:Nat) (f:Addr) (fd:FuncData) (ps:!Str) (sp:Sp):Prop where
 len:∀vs H Q E,sp vs H Q E->vs.length=ps.length
 run:∀(A:Around) (outer:!Env) (s:Shared) (H:Hp) (args:Args) (us:!Value) (vs:!V) (Q:VK) (E:XK),FD k A->ZG P w K mg base A outer s H->BindsTo s fd args (ps.zip us)->zC vs us->sp vs H Q E->
  codeAny (model P w) A (.call (.ref f) args) (CR CX outer P w H s Q E) s
theorem QE.imp {P:Program} {w:World} {K:PySem.W.Frag} {mg:Str->Option Value} {base:Heap} {CX:CXT} {k:Nat} {f:Addr} {j:FuncData} {D:!Str} {sp J:Sp} (F:QE P w K mg base CX k f j D sp)
  (h:∀vs H Q E,J vs H Q E->sp vs H Q E):QE P w K mg base CX k f j D J:=
 ⟨λvs H Q E q=>F.len vs H Q E (h _ _ _ _ q),λA a0 s H args us vs Q E V U O Z W=>F.run A a0 s H args us vs Q E V U O Z (h _ _ _ _ W)⟩
theorem ZG.make {P:Program} {w:World} {K:PySem.W.Frag} {mg:Str->Option Value} {base:Heap} {A:Around} {j:!Env} {s:Shared} {H:Hp} (e:ZG P w K mg base A j s H) (C:Addr) (us:!Value) (q:!(Str×Value)):
 ZG P w K mg base (A.under (.builtin "type.__call__" ⟨.ref C::us,q⟩)) j s H:=(by first|exact e.frames|(simpa[Around.under,Code.envs,Code.isFrame,pushEnvs] using e.frames),e.mod,e.bs,e.bsz,e.funs,e.frf,e.hok,e.bare)
section
variable {X:Cx} {pins:!(Addr×Obj)} {σ:St} {H:Hp} {s s':Shared}
theorem vC.env0 (I:vC X pins σ H s):ZG X.prog X.w X.K X.mg X.base X.A X.stack s H:=
 (I.ok.frames,I.ok.mod,I.bs,kB I.ok.bsz I.sz,I.stack,I.stkFree,I.hok,I.bare)
theorem vC.after {Q:VK} {u:Value} (D:vC X pins σ H s) (h:CE X.stack X.prog X.w H s Q u s'):EP X pins σ Q u s':=by
 let(v,j,U,F,un,O,r,q):=h;let(hh,g,J,t,V):=s';obtain rfl:V=s.os:=U;show(v,j,D.call (h':=hh) (g':=g) (d':=J) (t':=t) (ch:=[]) un O F (λb W=>absurd W (by simp)),r,q)
end
def kE (K:PySem.W.Frag) (fd:FuncData) (ps:!Str) (ds:!Value):Prop:=
 ∀(s:Shared) (us:!Value),K.In s.heap->(us++ds).length=ps.length->BindsTo s fd ⟨us,[]⟩ (ps.zip (us++ds))
theorem kE.all {K:PySem.W.Frag} {q:FuncData} {j:!Str} (h:∀us:!Value,us.length=j.length->bindArgs q ⟨us,[]⟩=pure (j.zip us)):kE K q j []:=λs us ο D=>by
 rw[iC] at D ⊢;show .of_eq (h us D)
section
variable {X:Cx} {CX:CXT} {k:Nat} {f C:Addr} {fd:FuncData} {ps:!Str} {sp:Sp} {dvs:!V} {ds:!Value} {E:XK} {x m:Str} {p pos apos:Pos} {e o:Expr} {es:!Expr} {ta:TE} {t:TA}
structure Mk (K:PySem.W.Frag) (C f:Addr):Prop where
 makes:PySem.W.makesIn K C=true
 init:PySem.W.findIn K (.ref C) "__init__">(↑f)
 fn:PySem.W.isFn K (.ref f)=true
 kp:PySem.W.keepIn K (.ref C)=true
end
section
variable {X:Cx} {CX:CXT} {k:Nat} {f C:Addr} {fd:FuncData} {ps ks:!Str} {sp:Sp} {E:XK} {x m:Str} {p pos apos kpos:Pos} {e o:Expr} {es:!Expr} {kws:!Keyword} {te ta:TE} {t tk:TA} {nm:Option Str}
variable {g:!Value->!Value->!Value} {gV:!V->!V->!V}
end
structure qC (N P:!Str) (sc:Scope):Prop where
 kind:sc.kind=.function
 co:sc.isCoroutine=false
 gen:sc.isGenerator=false
 nd:N.Nodup
 pre:N.take P.length=P
 par:∀x∈P,sc.names.lookup x>.local\/sc.names.lookup x>.cell
 nofree:∀y∈sc.names,y.2≠.free
theorem VV {kindOf:Str->Option NameKind} {x:Str}:∀{binds:!(Str×Value)} {m:Str->Option Value},(∀v,(x,v)∉binds)->bindL kindOf binds m x=m x
 |[],_,_=>rfl
 |(n,v)::r,m,h=>by
  unfold bindL;rw[VV λw hw=>h w (kA _ hw)]
  split
  .have:x≠n:=by rintro rfl;show h v wA
   simp[this]
  .rfl
theorem WV {kindOf:Str->Option NameKind} {x:Str}:∀{binds:!(Str×Value)} {m:Str->Option Value},(∀v,(x,v)∉binds)->bindC kindOf binds m x=m x
 |[],_,_=>rfl
 |(n,v)::r,m,h=>by
  unfold bindC;rw[WV λw hw=>h w (kA _ hw)]
  split
  .rfl
  .have:x≠n:=by rintro rfl;show h v wA
   simp[this]
theorem XV {kindOf:Str->Option NameKind} {x:Str} {v:Value}:∀{P:!Str} {vs:!Value} {i:Nat} {m:Str->Option Value},P.Nodup->P[i]?>x->vs[i]?>v->kindOf x>.local->
  bindL kindOf (P.zip vs) m x>v
 |[],_,_,_,_,h,_,_=>by simp at h
 |_::_,[],_,_,_,_,h,_=>by simp at h
 |p::P,w::vs,0,m,nd,h1,h2,hk=>by
  simp at h1 h2;subst h1;subst h2;change bindL kindOf ((p,w)::P.zip vs) m p=_;unfold bindL;rw[VV λv hv=>(JA.mp nd).1 (List.of_mem_zip hv).1,iA hk];simp
 |p::P,w::vs,i+1,m,nd,h1,h2,hk=>by
  change bindL kindOf ((p,w)::P.zip vs) m x=_;unfold bindL;show XV (i:=i) (JA.mp nd).2 (by simpa using h1) (by simpa using h2) hk
theorem YV {kindOf:Str->Option NameKind} {x:Str} {v:Value}:∀{P:!Str} {vs:!Value} {i:Nat} {m:Str->Option Value},P.Nodup->P[i]?>x->vs[i]?>v->kindOf x≠some .local->
  bindC kindOf (P.zip vs) m x>v
 |[],_,_,_,_,h,_,_=>by simp at h
 |_::_,[],_,_,_,_,h,_=>by simp at h
 |p::P,w::vs,0,m,nd,h1,h2,hk=>by
  simp at h1 h2;subst h1;subst h2;change bindC kindOf ((p,w)::P.zip vs) m p=_;unfold bindC;rw[WV λv hv=>(JA.mp nd).1 (List.of_mem_zip hv).1,gA hk];simp
 |p::P,w::vs,i+1,m,nd,h1,h2,hk=>by
  change bindC kindOf ((p,w)::P.zip vs) m x=_;unfold bindC;show YV (i:=i) (JA.mp nd).2 (by simpa using h1) (by simpa using h2) hk
def HE (N:!Str) (vs:!V):St:=vs.map some++List.replicate (N.length - vs.length) none
def fE (CX:CXT) (P:Program) (w:World) (K:PySem.W.Frag) (mg:Str->Option Value) (base:Heap) (N:!Str) (qual:Str) (scope:Scope) (f:Addr) (cd:Value) (A:Around) (outer:!Env) (s:Shared) (H:Hp) (E:XK):Cx where
 prog:=P
 w:=w
 K:=K
 mg:=mg
 base:=base
 A:=A.deeper (envOfC qual scope s.heap.objs.size f cd)
 N:=N
 s₀:=s
 H₀:=H
 env:=envOfC qual scope s.heap.objs.size f cd
 outer:=outer
 stack:=envOfC qual scope s.heap.objs.size f cd::outer
 ex:=[]
 calm:=true
 fn:=λο=>true
 pn:=[]
 xe:=λe s'=>wpAny (model P w) (A.deeper (envOfC qual scope s.heap.objs.size f cd)) (leaving (envOfC qual scope s.heap.objs.size f cd) e) (λο s''=>CX outer H s E e s'') (λe' s''=>CX outer H s E e' s'') s'
theorem ZV {j:Scope} {n:Nat} {x:Str} (h:j.names.lookup x>.cell):∃c,(cellsFrom n j.names []).lookup x>c:=by
 let q:=PySem.W.cellsFrom_some j.names n [] (.inl h);show Option.isSome_iff_exists.mp q
theorem EZ {CX:CXT} {P:Program} {w:World} {K:PySem.W.Frag} {mg:Str->Option Value} {base:Heap} {N O:!Str} {a2:Str} {F:Scope} {f:Addr} {Z:Value} {A:Around} {a4:!Env} {s s1:Shared} {H:Hp} {E:XK} {us:!Value} {vs:!V}
  (S:qC N O F) (hd:A.handled=none) (D:ZG P w K mg base A a4 s H) (ab:vs.length=O.length) (r:zC vs us)
  (x:InCallC s s.heap.objs.size (bindL (envOfC a2 F s.heap.objs.size f Z).kindOf (O.zip us) λο=>none) (cellsFrom (s.heap.objs.size+1) F.names []) (bindC (envOfC a2 F s.heap.objs.size f Z).kindOf (O.zip us) λο=>none) s1):
  vC (fE CX P w K mg base N a2 F f Z A a4 s H E) [] (HE N vs) H s1:=by
 let ac:O.length<=N.length:=by have:=congrArg List.length S.pre;rw[dB] at this;omega
 let(a0,ad,rfl,a5):=x.done;let a3:∀b:Addr,b∉(fE CX P w K mg base N a2 F f Z A a4 s H E).ex:=λb U=>absurd (show b∈([]:!Addr) from U) (by simp);show((D.mod,S.kind,rfl,rfl,pA _,λy U c a0 j=>?_,λy J=>?_,λy c ο h=>?_,λο=>hd,Around.frames_deeper D.frames,.inr ⟨rfl,rfl⟩,λb U=>absurd U (a3 b),D.bs,D.bsz,λb ο ο=>a3 b,λb U=>absurd U (a3 b),D.funs,D.frf),
  rfl,D.bare,Un.kept a5,(_,x.toInCall.ns,λi y v a0 j aa=>?_),λy c h=>⟨_,x.cell y c h⟩,D.hok.fresh (pA _),λy c h=>?_,λp W=>absurd (show p∈([]:!(Addr×Obj)) from W) (by simp),D.hok.kept a5,?_)
 .show name_of_addr x.apart (PySem.mem_of_lookup a0) (PySem.mem_of_lookup j)
 .let J:F.names.lookup y>.cell\/F.names.lookup y>.free:=J;let J||J:=J
  .show ZV J
  .show absurd rfl (S.nofree _ (PySem.mem_of_lookup J))
 .show Nat.le_of_lt (x.above y c (PySem.mem_of_lookup h))
 .let a1:i < vs.length:=by
   unfold HE at j;by_cases a1:i < vs.length
   .show a1
   .rw[IB (by simpa using a1)] at j;rw[List.getElem?_replicate] at j
    split at j<;>cases j
  let a8:vs[i]?>v:=by
   unfold HE at j;rw[List.getElem?_append_left (by simpa using a1),FA] at j;cases e:vs[i]? with
   |none=>rw[e] at j;cases j
   |some a=>rw[e] at j;cases j;rfl
  let(u,a6,a9):=r.get a8;let W:O[i]?>y:=by
   rw[<-S.pre,List.getElem?_take_of_lt ⋯];show a0
  let a7:O.Nodup:=by rw[<-S.pre];show S.nd.sublist (List.take_sublist _ _)
  show(u,a9,?_);let k||k:=S.par y (dA W)
  .show .inl ⟨k,XV a7 W a6 k⟩
  .let(c,e):=ZV (n:=s.heap.objs.size+1) k;show .inr (.inl k,c,e,?_);let q:=x.cell y c e;rw[YV a7 W a6 (by change F.names.lookup y≠_;rw[k];decide)] at q;show q
 .show D.hok.fresh (Nat.le_of_lt (x.above y c (PySem.mem_of_lookup h)))
 .unfold HE;change _=N.length;rw[jA,fA,qA];omega
theorem BQ {CX:CXT} {P:Program} {w:World} {K:PySem.W.Frag} {mg:Str->Option Value} {base:Heap} {k:Nat} {f:Addr} {name O:Str} {aa:Arguments} {a2:!Stmt} {j:Scope} {a7 kV a8 pm J a6 ao:Value} {an ap:Option Addr}
  {aq:Array (Option Value)} {N a0:!Str} {sp:Sp} (lk:K.lookup f>(ao,ap,.func (PySem.W.fnOf name O aa a2 j a7 kV a8 pm an J a6),aq)) (af:PySem.W.codeIn K J O=true) (S:qC N a0 j)
  (len:∀vs H Q E,sp vs H Q E->vs.length=a0.length)
  (ae:∀(A:Around) (W:!Env) (s:Shared) (H:Hp) (vs:!V) (Q:VK) (E:XK),FD k (A.deeper (envOfC O j s.heap.objs.size f J))->sp vs H Q E->
   ∃t,SF (fE CX P w K mg base N O j f J A W s H E) a2 t/\t {nx:=λο D=>Q .non D,rt:=Q} (HE N vs) H):
  QE P w K mg base CX (k+1) f (PySem.W.fnOf name O aa a2 j a7 kV a8 pm an J a6) a0 sp:=by
 show⟨len,λA W s H args us vs Q E a3 Z ad r a9=>?_⟩;let ai:=len _ _ _ _ a9;let a5:K.In s.heap:=Z.mod.kin.keeps λb o e=>(Z.bs b o e).1;let am:s.heap.NoLimit:=Z.mod.nolimit.keeps λb o e=>(Z.bs b o e).1;let ah:∀y∈a0.zip us,j.names.lookup y.1>.local\/(j.names.lookup y.1>.cell/\((cellsFrom (s.heap.objs.size+1) j.names []).lookup y.1).isSome=true):=λ⟨n,v⟩ al=>by
  let q||q:=S.par n (List.of_mem_zip al).1
  .show .inl q
  .show .inr ⟨q,PySem.W.cellsFrom_some _ _ _ (.inl q)⟩
 show codeAny_call_function a3.depth (a5 _ _ lk) rfl S.co S.gen rfl (PySem.W.codeRec_of a5 af) (ad _ _ _ _ ?_);show wpAny_newFunctionEnv_cells S.kind ah λar ag s1 x=>?_;subst ag;show⟨am.keeps x.toInCall.keep,codeAny_func ?_⟩;let(t,ak,aj):=ae A W s H vs Q E (a3.deeper _) a9;let ab:vC (fE CX P w K mg base N O j f J A W s H E) [] (HE N vs) H s1:=EZ S a3.hd Z ai r x;show FB (ak [] s1 (HE N vs) H _ ab aj) (λac s' U=>?_) λe s' U=>U;let fin:∀{a1:St} {D:Hp} {v:V} {u:Value},vC (fE CX P w K mg base N O j f J A W s H E) [] a1 D s'->DC v u->Q v D->CE W P w H s Q u s':=
  λ{a1 D v u} F a4 q=>(v,D,F.os,F.bare,F.base,F.hok,a4,q)
 cases ac with
 |ret u=>
  let(v,a1,D,F,a4,q):=U;show fin F a4 q
 |next=>
  let(a1,D,F,q):=U;show fin (v:=V.non) (u:=Value.none) F rfl q
 |brk=>
  let(_,_,_,q):=U;show False.elim q
 |cont=>
  let(_,_,_,q):=U;show False.elim q
section
variable {X:Cx} {x:Str} {p pos:Pos} {e:Expr} {es:!Expr} {t:TA} {id T:String} {r:!V->Hp->VK->Prop}
def CQ (r:!V->Hp->VK->Prop) (t:TA):TE:=λσ H Q=>t σ H λvs H1=>r vs H1 Q
theorem MD (U:xE X (.builtin id) r) (Z:Gl X x) (a0:X.mg x=none) (a3:bootBuiltins x>(.builtin id)) (O:PA X (e::es) t) (a1:x≠"__name__":=by decide) (V:(x == ("__debug__":Str))=false:=by decide)
  (W:starEach (e::es) X.env=(false,eval e X.env)::starEach es X.env:=by rfl) (a2:(backTo pos (starEach es X.env)).any (·.1)=false:=by rfl):PE X (.Call (.Name x p) (e::es) [] pos) (CQ r t):=by
 intro q s D H Q j h;show wpAny_Call_Name_kw (OM j Z a0 a3 ?_ a1 V);show PyProof.Rows.callWith_builtin1 (cD (O pos q s D H _ j h) λus s1 ⟨vs,F,J,a5,a4⟩=>U q s1 D F vs us Q J a5 a4) W a2
theorem aH (U:xE X (.type T) r) (Z:Gl X x) (a0:X.mg x=none) (a3:bootBuiltins x>(.type T)) (O:PA X (e::es) t) (a1:x≠"__name__":=by decide) (V:(x == ("__debug__":Str))=false:=by decide)
  (W:starEach (e::es) X.env=(false,eval e X.env)::starEach es X.env:=by rfl) (a2:(backTo pos (starEach es X.env)).any (·.1)=false:=by rfl):PE X (.Call (.Name x p) (e::es) [] pos) (CQ r t):=by
 intro q s D H Q j h;show wpAny_Call_Name_kw (OM j Z a0 a3 ?_ a1 V);show PyProof.Rows.callWith_type1 (cD (O pos q s D H _ j h) λus s1 ⟨vs,F,J,a5,a4⟩=>U q s1 D F vs us Q J a5 a4) W a2
end
end L2
namespace HT
open PySem PyProof.Rows
section
open PySem.SeqAt
open PySem.AutoSeq1 (wpAny_loadPart')
open PySem.MeetsSeq PySem.MeetsSeq2 PySem.MeetsSeq3
end
section
variable {prog:Program} {w:World} {A:Around} {E:Value->Shared->Prop} {s:Shared}
def qG (n d:Nat):Option Int->Nat
 |none=>d
 |some v=>if v < 0 then (v+(n:Int)).toNat else min v.toNat n
theorem aW (n d k:Nat):qG n d (some (k:Int))=min k n:=by
 change (if (k:Int) < 0 then ((k:Int)+(n:Int)).toNat else min (k:Int).toNat n)=min k n;rw[gA ⋯,gB]
end
end HT
namespace L2
open PySem PySem.Spec PyProof.Rows
abbrev TO:=St->Hp->(Option Int->Hp->Prop)->Prop
def PO (X:Cx) (e:Option Expr) (t:TO):Prop:=
 ∀(pins:!(Addr×Obj)) (s:Shared) (σ:St) (H:Hp) (Q:Option Int->Hp->Prop),vC X pins σ H s->t σ H Q->
  wpAny (model X.prog X.w) X.A (evalPart e X.env) (λu s'=>∃o H',vC X pins σ H' s'/\IsPart u o/\Q o H') X.xe s
def rJ (t:TE):TO:=λσ H Q=>t σ H λx H1=>∃i,x=.int i/\Q (some i) H1
section
variable {X:Cx} {e:Expr} {te:TE} {lo hi:Option Expr} {tl th:TO} {pos p2:Pos}
theorem bW (h:PE X e te):PO X (some e) (rJ te):=by
 intro O s Z H Q D J;rw[evalPart_some];show cD (h O s Z H _ D J) λu s1 W=>?_;let(x,j,F,V,U):=W;let(i,rfl,q):=U;let(t,rfl):=V;show(some i,j,F,.int i t,q)
def cW (X:Cx) (r:V->Option Int->Option Int->Hp->VK->Prop):Prop:=
 ∀(pins:!(Addr×Obj)) (s:Shared) (σ:St) (H:Hp) (x:V) (v vl vu:Value) (lo hi:Option Int) (sl:Addr) (Q:VK),vC X pins σ H s->DC x v->s.heap.IsSliceOf sl vl vu .none->IsPart vl lo->IsPart vu hi->r x lo hi H Q->
  ∃T id,typeLookup (.type T) "__getitem__"=pure (some (.builtin id))/\s.TypeIs v T/\wpAny (model X.prog X.w) X.A (getItem v (.ref sl)) (EP X pins σ Q) X.xe s
def dW (r:V->Option Int->Option Int->Hp->VK->Prop) (te:TE) (tl th:TO):TE:=λσ H Q=>te σ H λx H1=>tl σ H1 λl H2=>th σ H2 λu H3=>r x l u H3 Q
theorem FZ {r:V->Option Int->Option Int->Hp->VK->Prop} (aa:cW X r) (a7:PE X e te) (a9:PO X lo tl) (ac:PO X hi th):PE X (.Subscript e (.Slice lo hi none p2) pos) (dW r te tl th):=by
 intro D s F H Q a1 h;show Subscript_ (cD (a7 D s F H _ a1 h) λv s1 U=>?_);let(x,Z,a2,ah,ae):=U;show wpAny_Slice (cD (a9 D s1 F Z _ a2 ae) λJ ai ⟨l,a0,a3,pl,af⟩=>cD (ac D ai F a0 _ a3 af) λO j U=>?_);let(u,W,a4,ad,ag):=U;rw[evalPart_none];show vA ?_;let a5:vC X D F W {j with heap:=j.heap.push {cls:=.type "slice",data:=.fields #[J,O,.none]}}:=a4.kept (t':=j.toks) λb ob q=>uA _ q;let(T,id,a6,ab,a8):=aa D {j with heap:=j.heap.push {cls:=.type "slice",data:=.fields #[J,O,.none]}} F W x v J O l u j.heap.objs.size Q a5 ah (Heap.IsSliceOf.new ..) pl ad ag;change wpAny (model X.prog X.w) X.A (subscriptTail e (.Slice lo hi none p2) v (.ref j.heap.objs.size)) (EP X D F Q) X.xe {j with heap:=j.heap.push {cls:=.type "slice",data:=.fields #[J,O,.none]}};show tail_any (ops:=[.ref j.heap.objs.size,v]) ab a6 a8 (by with_unfolding_all rfl)
def yH (xs:!V) (lo hi:Option Int):!V:=(xs.drop (HT.qG xs.length 0 lo)).take (HT.qG xs.length xs.length hi - HT.qG xs.length 0 lo)
theorem HZ (xs:!V) (lo j:Option Int):(yH xs lo j).length<=xs.length:=by
 unfold yH;rw[dB,List.length_drop];omega
end
def zH (n:Nat) (i:Int):Option Nat:=if 0<=i then (if i < n then some i.toNat else none) else if -(n:Int)<=i then some (i+n).toNat else none
def WF {α:Type} (xs:!α) (i:Int):Option α:=(zH xs.length i).bind λj=>xs[j]?
theorem DQ {n:Nat} {i:Int} {j:Nat} (h:zH n i>j):seqIndex? i n>j/\j < n/\ -(n:Int)<=i/\i < n:=by
 unfold zH at h;by_cases D:0<=i
 .rw[iA D] at h;by_cases q:i < n
  .rw[iA q] at h;let e:i.toNat=j:=bA h;show(by rw[seqIndex_of D q,e],⋯,⋯,q)
  .rw[gA q] at h;cases h
 .rw[gA D] at h;by_cases q: -(n:Int)<=i
  .rw[iA q] at h;let e:(i+n).toNat=j:=bA h;show(by rw[seqIndex_neg ⋯ q,e],⋯,q,⋯)
  .rw[gA q] at h;cases h
theorem eW {q:Type} {xs:!q} {i:Int} {v:q} (h:WF xs i>v):∃j,seqIndex? i xs.length>j/\xs[j]?>v/\j < xs.length/\ -(xs.length:Int)<=i/\i < xs.length:=by
 unfold WF at h;cases e:zH xs.length i with
 |none=>rw[e] at h;cases h
 |some j=>
  rw[e] at h;let(D,F,J,O):=DQ e;show(j,D,h,F,J,O)
theorem CC {q:Type} {xs:!q} {j:Nat} {v:q} (h:xs[j]?>v):WF xs (j:Int)>v:=by
 let D:j < xs.length:=(aA.mp h).1;let e:zH xs.length (j:Int)>j:=by
  unfold zH;rw[iA ⋯,iA ⋯];simp
 unfold WF;rw[e];show h
theorem lP {j:Type} (xs:!j) (v:j):WF (xs++[v]) (-1)>v:=by
 let q:(xs++[v]).length=xs.length+1:=by simp
 let e:zH (xs++[v]).length (-1)>xs.length:=by
  unfold zH;rw[q,gA (by decide),iA ⋯];congr 1;omega
 unfold WF;rw[e];change (xs++[v])[xs.length]?>v;simp
def NI (b:Expr):Prop:=∀o i,subscripted b false o i=operate [o,i] (getItem o i)
def YH (X:Cx) (r:R2):Prop:=
 ∀(value slice:Expr) (pins:!(Addr×Obj)) (s:Shared) (σ:St) (H:Hp) (x y:V) (v u:Value) (Q:VK),vC X pins σ H s->DC x v->DC y u->r x y H Q->
  subscripted slice false v u=operate [v,u] (getItem v u)->wpAny (model X.prog X.w) X.A (subscriptTail value slice v u) (EP X pins σ Q) X.xe s
def IZ (X:Cx) (id:String) (r:V->!V->Hp->VK->Prop):Prop:=
 ∀(pins:!(Addr×Obj)) (s:Shared) (σ:St) (H:Hp) (x:V) (xs:!V) (v:Value) (us:!Value) (Q:VK),vC X pins σ H s->DC x v->zC xs us->r x xs H Q->
  wpAny (model X.prog X.w) X.A (call (.builtin id) (v::us)) (EP X pins σ Q) X.xe s
section
variable {X:Cx} {a b:Expr} {ta tb:TE} {pos:Pos}
theorem YH.or {r r':R2} (h:YH X r) (h':YH X r'):YH X (λx y H Q=>r x y H Q\/r' x y H Q):=by
 intro V U F s W H x y v u Q j J O q D;let q||q:=q
 .show h V U F s W H x y v u Q j J O q D
 .show h' V U F s W H x y v u Q j J O q D
theorem BC {r:R2} (U:YH X r) (J:PE X a ta) (O:PE X b tb) (V:NI b):PE X (.Subscript a b pos) (wK r ta tb):=by
 intro W s a2 H Q D h;show Subscript_ (xK J O D h λv u a1 x y j F Z a0 q=>U a b W a1 a2 j x y v u Q F Z a0 q (V _ _))
def OI (K:PySem.W.Frag):R2:=λx y H Q=>∃p xs i v,x=.ref p/\y=.int i/\uC K H p xs/\WF xs i>v/\Q v H
def AH (K:PySem.W.Frag):R2:=λx y H Q=>∃p xs i v,x=.ref p/\y=.int i/\VC K H p xs/\WF xs i>v/\Q v H
theorem LC:YH X (OI X.K):=by
 intro ae ad W s Z H x y v u Q J a8 a9 h V;let(p,xs,i,aa,rfl,rfl,a5,a3,q):=h;cases a8;let(t,rfl):=a9;let(a6,r,pl,hz):=J.list a5;let(j,D,a0,ab,a1,a2):=eW a3;let(w,O,a7):=r.get a0;let a4:=r.length;let ac:=kG;let fin:EP X W Z Q w s:=(aa,H,J,a7,q)
 by_cases U:0<=i
 .let F:i.toNat=j:=by
   rw[seqIndex_of U a2] at D;show bA D
  show item_listR pl.isList U ⋯ (by rw[F];simpa using O) fin V
 .let F:(i+(a6.toArray.size:Int)).toNat=j:=by
   rw[seqIndex_neg ⋯ a1] at D;rw[CA,<-a4];show bA D
  show subscriptTail_builtinR (x:=w) pl.isList.typeIs slot_list_getitem.lookup
   (wpAny_getItem_list_neg (Q:=λr s'=>r=w/\EP X W Z Q r s') pl.isList ⋯ (by rw[CA]<;>omega) ⋯ (by rw[F];simpa using O) ⟨rfl,fin⟩) V
theorem ND:YH X (AH X.K):=by
 intro ac ab F s J H x y v u Q D a3 a4 h a1;let(p,xs,i,a5,rfl,rfl,a0,W,q):=h;cases a3;let(t,rfl):=a4;let(aa,r,pl,hz):=D.tuple a0;let(j,U,V,a6,a7,a8):=eW W;let(w,O,a2):=r.get V;let Z:=r.length;let a9:=kG;let fin:EP X F J Q w s:=(a5,H,D,a2,q)
 show subscriptTail_builtinR (x:=w) pl.typeIs slot_tuple_getitem.lookup
  (getItem_tuple (j:=j) (Q:=λr s'=>r=w/\EP X F J Q r s') pl ⋯ ⋯ (by rw[CA,<-Z];show U) (by simpa using O) ⟨rfl,fin⟩) a1
theorem JZ (q:!Value) (n j:Nat) (u:Value):Obj.mapSeq (·.setIfInBounds j u) {cls:=.type "list",data:=.seq q.toArray n}={cls:=.type "list",data:=.seq (q.set j u).toArray n}:=by
 simp[Obj.mapSeq]
theorem vC.lst {D:!(Addr×Obj)} {J:St} {H:Hp} {s:Shared} {p:Addr} {xs:!V} (q:vC X D J H s) (h:H p>(.lst xs)):
  ∃(j:!Value) (n:Nat),zC xs j/\s.heap.get? p>{cls:=.type "list",data:=.seq j.toArray n}/\xs.length<=sizeLine:=by
 let(F,j,n,r,e):=q.hok p _ h;show(j,n,r,e,F)
theorem vC.lstUpd {O:!(Addr×Obj)} {U:St} {H:Hp} {s:Shared} {p:Addr} {xs D:!V} {J its':!Value} {n j:Nat} {f:Obj->Obj} (W:vC X O U H s) (h:H p>(.lst xs))
  (a0:s.heap.get? p>{cls:=.type "list",data:=.seq J.toArray n}) (F:f {cls:=.type "list",data:=.seq J.toArray n}={cls:=.type "list",data:=.seq its'.toArray j}) (r:zC D its') (hz:D.length<=sizeLine) (t:Nat):
  vC X O U (upd H p (.lst D)) {s with heap:=s.heap.update p f,toks:=t}:=by
 let e:(s.heap.update p f).get? p>{cls:=.type "list",data:=.seq its'.toArray j}:=by
  rw[RB f a0 (by rw[F]<;>rfl),F]
 show W.write (x:=p) (e:=p) (by rw[h];trivial) (.inl rfl) (λb u Z q=>(HB _ _ (Ne.symm Z)).trans q) ⟨_,e⟩ ?_;show(hz,its',j,r,e)
def rSetL:V->V->V->Hp->(Hp->Prop)->Prop:=λo i v H Q=>∃p xs k j,o=.ref p/\i=.int k/\H p>(.lst xs)/\zH xs.length k>j/\Q (upd H p (.lst (xs.set j v)))
theorem oF:XM X rSetL:=by
 intro a4 s a8 H o i v ac ab u Q U a6 a5 a7 h;let(p,xs,k,j,rfl,rfl,a1,a3,q):=h;cases a6;let(t,rfl):=a5;let(a2,n,r,O,hz):=U.lst a1;let(D,a9,Z,a0):=DQ a3;let J:=r.length;let aa:=kG;let V:vC X a4 a8 (upd H p (.lst (xs.set j v))) {s with heap:=s.heap.update p (Obj.mapSeq (·.setIfInBounds j u))}:=
  U.lstUpd a1 O (JZ a2 n j u) (r.set a7 j) (by rw[rA];show hz) s.toks
 by_cases W:0<=k
 .let F:k.toNat=j:=by
   rw[seqIndex_of W a0] at D;show bA D
  show PySem.W.ki_setAt O W ⋯ (by rw[CA,<-J];show a0) (by rw[F];show(_,V,q))
 .let F:(k+(a2.toArray.size:Int)).toNat=j:=by
   rw[seqIndex_neg ⋯ Z] at D;rw[CA,<-J];show bA D
  show PySem.W.ki_setBack O ⋯ (by rw[CA,<-J];show Z) ⋯ (by rw[F];show(_,V,q))
theorem KZ (lo j:Option Int) (n:Nat):(sliceBounds lo j none n).1=((HT.qG n 0 lo:Nat):Int)/\(sliceBounds lo j none n).2.1=((HT.qG n n j:Nat):Int)/\(sliceBounds lo j none n).2.2=1:=by
 show(?_,?_,rfl)
 .cases lo with
  |none=>simp[sliceBounds,HT.qG]
  |some i=>
   simp only[sliceBounds,HT.qG,Option.getD_none,show GT.gt (1:Int) 0 by decide,if_true];by_cases h:i < 0
   .simp only[h,if_true]<;>omega
   .simp only[h,GB]<;>omega
 .cases j with
  |none=>simp[sliceBounds,HT.qG]
  |some i=>
   simp only[sliceBounds,HT.qG,Option.getD_none,show GT.gt (1:Int) 0 by decide,if_true];by_cases h:i < 0
   .simp only[h,if_true]<;>omega
   .simp only[h,GB]<;>omega
theorem LZ (j:!Value) (lo q:Option Int):slicePick j.toArray lo q none=((j.drop (HT.qG j.length 0 lo)).take (HT.qG j.length j.length q - HT.qG j.length 0 lo)).toArray:=by
 let(D,F,J):=KZ lo q j.toArray.size;unfold slicePick;rw[D,F,J];simp only[sliceRange_one,pick_run,CA]<;>rfl
def sN (K:PySem.W.Frag):V->Option Int->Option Int->Hp->VK->Prop:=λx lo hi H Q=>∃a xs,x=.ref a/\uC K H a xs/\∀p,H p=none->Q (.ref p) (upd H p (.lst (yH xs lo hi)))
theorem MZ:cW X (sN X.K):=by
 intro a0 s a4 H x v a2 a3 lo D a1 Q j W O pl V h;let(a,xs,rfl,U,q):=h;cases W;let(Z,r,F,hz):=j.list U;let J:=r.length;show("list",_,slot_list_getitem.lookup,F.isList.typeIs,?_);show wpAny_getItem_list_slice F.isList O pl V .none (by simp) ?_ (by rw[CA]<;>omega);rw[LZ,<-J];show(.ref s.heap.objs.size,_,j.laid (t':=s.toks) (o:=.lst (yH xs lo D)) (λb ob q=>uA _ q) (pA _) ?_,rfl,q _ (j.hok.fresh (pA _)));show(kB (HZ xs lo D) hz,_,0,(r.drop (HT.qG xs.length 0 lo)).take (HT.qG xs.length xs.length D - HT.qG xs.length 0 lo),HA _ rfl)
def bE:V->Bool
 |.non=>true
 |.bl _=>true
 |.int _=>true
 |.str _=>true
 |_=>false
def kH:V->V->Bool
 |.non,.non=>true
 |.bl a,.bl b=>a == b
 |.bl a,.int b=>(if a then 1 else 0) == b
 |.int a,.bl b=>a == (if b then 1 else 0)
 |.int a,.int b=>a == b
 |.str a,.str b=>a == b
 |_,_=>false
theorem fW {A:Around} {s:Shared} {y x:V} {u v:Value} (D:DC y u) (j:DC x v) (F:bE y=true) (q:bE x=true):SeqAt.EqAt A s u v (kH y x):=by
 cases y with
 |non=>
  cases D;cases x with
  |non=>cases j;show SeqAt.EqAt.same _
  |bl b=>cases j;show SeqAt.EqAt.none_bool b
  |int b=>let(t,rfl):=j;show SeqAt.EqAt.none_int b t
  |str b=>let(t,rfl):=j;show SeqAt.EqAt.none_str b t
  |_=>show absurd (show false=true from q) lA
 |bl a=>
  cases D;cases x with
  |non=>cases j;show SeqAt.EqAt.bool_none a
  |bl b=>cases j;show SeqAt.EqAt.bool_bool a b
  |int b=>let(t,rfl):=j;show SeqAt.EqAt.bool_int a b t
  |str b=>let(t,rfl):=j;show SeqAt.EqAt.bool_str a b t
  |_=>show absurd (show false=true from q) lA
 |int a=>
  let(t',rfl):=D;cases x with
  |non=>cases j;show SeqAt.EqAt.int_none a t'
  |bl b=>cases j;show SeqAt.EqAt.int_bool a t' b
  |int b=>let(t,rfl):=j;show SeqAt.EqAt.int_int a t' b t
  |str b=>let(t,rfl):=j;show SeqAt.EqAt.int_str a t' b t
  |_=>show absurd (show false=true from q) lA
 |str a=>
  let(t',rfl):=D;cases x with
  |non=>cases j;show SeqAt.EqAt.str_none a t'
  |bl b=>cases j;show SeqAt.EqAt.str_bool a t' b
  |int b=>let(t,rfl):=j;show SeqAt.EqAt.str_int a t' b t
  |str b=>let(t,rfl):=j;show SeqAt.EqAt.str_str a t' b t
  |_=>show absurd (show false=true from q) lA
 |_=>show absurd (show false=true from F) lA
def QI (x:V) (u:Value):Bool:=match u with
 |.none=>kH .non x
 |.bool b=>kH (.bl b) x
 |.int i _=>kH (.int i) x
 |.str z _=>kH (.str z) x
 |_=>false
theorem gW {x y:V} {u:Value} (r:DC y u) (f:bE y=true):QI x u=kH y x:=by
 cases y with
 |non=>cases r;rfl
 |bl b=>cases r;rfl
 |int i=>let(t,rfl):=r;rfl
 |str z=>let(t,rfl):=r;rfl
 |_=>show absurd (show false=true from f) lA
theorem EQ {x:V}:∀{xs:!V} {us:!Value},zC xs us->xs.all bE=true->us.any (QI x)=xs.any λy=>kH y x
 |_,_,.nil,_=>rfl
 |y::xs,u::us,.cons r t,f=>by
  rw[List.all_cons,cB] at f;rw[List.any_cons,List.any_cons,gW r f.1,EQ t f.2]
theorem FQ {A:Around} {s:Shared} {x:V} {v:Value} (rx:DC x v) (fx:bE x=true):∀{xs:!V} {us:!Value},zC xs us->xs.all bE=true->∀u∈us,SeqAt.EqAt A s u v (QI x u)
 |_,_,.nil,_=>λu hu=>by cases hu
 |y::xs,u::us,.cons r t,f=>λu' hu=>by
  rw[List.all_cons,cB] at f;let rfl||hu:=xA.mp hu
  .rw[gW r f.1];show fW r rx f.1 fx
  .show FQ rx fx t f.2 u' hu
def iM (x:V) (xs:!V):Bool:=xs.any λy=>kH y x
def iW (K:PySem.W.Frag) (neg:Bool):R2:=λx y H Q=>∃p xs,y=.ref p/\(uC K H p xs\/VC K H p xs)/\bE x=true/\xs.all bE=true/\Q (.bl (if neg then not (iM x xs) else iM x xs)) H
theorem GQ:yF X (compareOp .In) (iW X.K false):=by
 intro W s Z H x y v u Q F U V h;let(p,xs,rfl,j,O,fs,q):=h;cases V;let j||j:=j
 .let(D,r,pl,hz):=F.list j;show SeqAt.in_listAt (QI x) pl.isList (λw J=>FQ U O r fs w (by simpa using J)) (.bl _,H,F,rfl,?_);rw[show D.toArray.any (QI x)=D.any (QI x) by simp,EQ r fs];show q
 .let(D,r,pl,hz):=F.tuple j;show SeqAt.in_tupleAt (QI x) pl (λw J=>FQ U O r fs w (by simpa using J)) (.bl _,H,F,rfl,?_);rw[show D.toArray.any (QI x)=D.any (QI x) by simp,EQ r fs];show q
theorem tJ:xE X (.type "list") (λxs H Q=>∃p F,xs=[.ref p]/\(uC X.K H p F\/VC X.K H p F)/\∀l,H l=none->Q (.ref l) (upd H l (.lst F))):=by
 intro a1 s a3 H xs us Q U r h;let(p,F,rfl,J,q):=h;let(u,rfl,a2):=XE r;cases a2;let fin:∀(j:!Value),zC F j->F.length<=sizeLine->∀(h':Heap) (D:Nat),(∀b Z,s.heap.get? b>Z->h'.get? b>Z)->
   h'.get? s.heap.objs.size>{cls:=.type "list",dict:=none,data:=.seq j.toArray D,slots:= #[]}->EP X a1 a3 Q (.ref s.heap.objs.size) {s with heap:=h'}:=λj r' hz h' D O e=>
  (.ref s.heap.objs.size,_,U.laid (t':=s.toks) O (pA _) (show MC X.prog X.w _ h' _ (.lst F) from (hz,j,D,r',e)),rfl,q _ (U.hok.fresh (pA _)))
 let J||J:=J
 .let(j,r',pl,hz):=U.list J;let a0:=r'.length;let(o,W,V,n,hd):=pl.isList;show call_list_seq p (.inl rfl) W V hd (λh' D O e=>fin j r' hz h' D O e) (by simp only[CA]<;>omega)
 .let(j,r',pl,hz):=U.tuple J;let a0:=r'.length;let(o,W,V,n,hd):=pl;show call_list_seq p (.inr rfl) W V hd (λh' D O e=>fin j r' hz h' D O e) (by simp only[CA]<;>omega)
theorem jW:xE X (.type "tuple") (λxs H Q=>∃p j,xs=[.ref p]/\((uC X.K H p j/\∀l,H l=none->Q (.ref l) (upd H l (.tup j)))\/(VC X.K H p j/\Q (.ref p) H))):=by
 intro U s V H xs us Q D r h;let(p,j,rfl,h):=h;let(u,rfl,a0):=XE r;cases a0;let(F,q)||(F,q):=h
 .let(J,r',pl,hz):=D.list F;let a1:=r'.length;show call_tuple_list pl.isList (λh' Z=>?_) (by simp only[CA]<;>omega);let O:vC X U V H {s with heap:=h'}:=D.kept (t':=s.toks) Z;let W:vC X U V (upd H h'.objs.size (.tup j)) {s with heap:=h'.push {cls:=.type "tuple",data:=.seq J.toArray}}:=
   O.laid (t':=s.toks) (λb o e=>uA _ e) (pA _) (show MC X.prog X.w _ _ _ (.tup j) from (hz,J,r',IsTup.new _ _))
  show(.ref h'.objs.size,_,W,rfl,q _ (O.hok.fresh (pA _)))
 .let(J,r',pl,hz):=D.tuple F;show call_tuple_same pl (.ref p,H,D,rfl,q)
def kW (K:PySem.W.Frag) (T:String) (x:V) (H:Hp):Prop:=match x with
 |.str _=>T="str"
 |.int _=>T="int"
 |.ref p=>(T="list"/\∃xs,uC K H p xs)\/(T="tuple"/\∃o,K.lookup p>o/\o.cls=.type "tuple"/\o.dict=none)\/
  (T="dict"/\((∃kvs,H p>(.dK kvs))\/∃kvs,H p>(.dT kvs)))\/(T="set"/\∃S n,H p>(.set S n))
 |_=>False
theorem yK {W:!(Addr×Obj)} {Z:St} {H:Hp} {s:Shared} {T:String} {x:V} {v:Value} (q:vC X W Z H s) (r:DC x v) (ty:kW X.K T x H):
  s.TypeIs v T/\∀a,v=.ref a->∃ob,s.heap.get? a>ob/\ob.dict=none:=by
 cases x with
 |str F=>
  let(t,rfl):=r;cases (show T="str" from ty);show⟨typeIs_str s F t,λο e=>nomatch e⟩
 |int i=>
  let(t,rfl):=r;cases (show T="int" from ty);show⟨typeIs_int s i t,λο e=>nomatch e⟩
 |ref p=>
  cases r;let(rfl,xs,O)||(rfl,o,j,J,hd)||(rfl,j)||(rfl,S,n,j):=ty
  .let(a0,_,pl,_):=q.list O;show⟨pl.isList.typeIs,λa e=>?_⟩;cases e;let(o,n,e,c,hd,_):=pl;show(o,e,hd)
  .show⟨(o,q.kIn p o j,J),λa e=>?_⟩;cases e;show(o,q.kIn _ o j,hd)
  .let F:∃o,s.heap.get? p>o/\o.ExactDict:=by
    let(U,j)||(U,j):=j
    .let(_,_,_,_,o,_,_,e,ex,_):=q.hok p _ j;show(o,e,ex)
    .let(_,_,_,_,o,_,_,e,ex,_):=q.hok p _ j;show(o,e,ex)
   let(o,e,ex):=F;show⟨(o,e,ex.1),λa D=>?_⟩;cases D;show(o,e,ex.2.1)
  .let(o,_,_,_,e,ex,_):=q.hok p _ j;show⟨(o,e,ex.1),λa D=>?_⟩;cases D;show(o,e,ex.2.1)
 |_=>show False.elim ty
def lW (K:PySem.W.Frag) (T:String) (r:V->!V->Hp->VK->Prop) (to:TE) (t:TA):TE:=λσ H Q=>to σ H λx H1=>kW K T x H1/\t σ H1 λxs H2=>r x xs H2 Q
variable {o e:Expr} {es:!Expr} {to:TE} {t:TA} {name:Str} {apos cpos:Pos} {T id:String} {r:V->!V->Hp->VK->Prop}
theorem lH (aa:PlainAttrs T) (slot:Slot T name id) (a9:typeOf (.builtin id)=pure (.type "method_descriptor")) (a5:IZ X id r) (a6:PE X o to) (a1:PA X (e::es) t)
  (a2:attributeBase o name X.env (eval o X.env)=eval o X.env:=by rfl)
  (a3:((backTo cpos (starEach (e::es) X.env)).all (λx=> not x.1)&&(backToKw cpos (keywordEach [] X.env)).all (λx=>x.1.isSome)
   &&decide ((e::es).length+([]:!Keyword).length+(if ([]:!Keyword).isEmpty then 0 else 1) < 30))=true:=by rfl)
  (a4:(apos.endLine == cpos.line)=true:=by rfl) (a8:starEach (e::es) X.env=(false,eval e X.env)::starEach es X.env:=by rfl) (a7:(backTo cpos (starEach es X.env)).any (·.1)=false:=by rfl):
  PE X (.Call (.Attribute o name apos) (e::es) [] cpos) (lW X.K T r to t):=by
 intro j s q H Q V h;show wpAny_Call_method_late a2 a3 a4 rfl (cD (a6 j s q H _ V h) λv s1 af=>?_);let(x,O,D,J,ty,ab):=af;let(Z,a0):=yK D J ty;show(T,id,aa,slot,a9,Z,a0,?_);let F:=a1 cpos j s1 q O _ D ab;rw[a8] at F ⊢;show Calls.callWith_builtin (by change (false || (backTo cpos (starEach es X.env)).any (·.1))=false;rw[a7]<;>rfl) (Calls.evalArgs_plain ?_);show cD F λus ae ⟨vs,U,W,ad,ac⟩=>a5 j ae q U x vs v us Q W J ad ac
end
def HQ (X:Cx) (id:String) (r:V->!V->Hp->VK->Prop):Prop:=
 ∀(pins:!(Addr×Obj)) (s:Shared) (σ:St) (H:Hp) (x:V) (xs:!V) (v:Value) (us:!Value) (Q:VK),vC X pins σ H s->DC x v->zC xs us->r x xs H Q->
  wpAny (model X.prog X.w) X.A (call (.builtin id) (v::us)) (EP X pins σ Q) X.xe s
theorem zC.one:∀{x:V} {us:!Value},zC [x] us->∃u,us=[u]/\DC x u:=by
 intro x us h;cases h with
 |cons r h=>cases h;show(_,rfl,r)
theorem zC.two:∀{x y:V} {us:!Value},zC [x,y] us->∃u v,us=[u,v]/\DC x u/\DC y v:=by
 intro x y us h;cases h with
 |cons r h=>
  cases h with
  |cons q h=>cases h;show(_,_,rfl,r,q)
theorem zC.zero:∀{us:!Value},zC [] us->us=[]
 |_,.nil=>rfl
theorem zC.eraseIdx:∀{xs:!V} {us:!Value} (i:Nat),zC xs us->zC (xs.eraseIdx i) (us.eraseIdx i)
 |_,_,_,.nil=>.nil
 |_,_,0,.cons _ t=>t
 |_,_,i+1,.cons r t=>.cons r (zC.eraseIdx i t)
theorem zC.rep {xs:!V} {us:!Value} (h:zC xs us):∀k:Nat,zC (List.replicate k xs).flatten (List.replicate k us).flatten
 |0=>.nil
 |k+1=>by
  rw[BB,BB,List.flatten_cons,List.flatten_cons];show zC.append h (zC.rep h k)
theorem mW {α:Type}:∀(l:!α) (i:Nat),(l.eraseIdx i).length<=l.length
 |[],_=>pA _
 |_::_,0=>Nat.le_succ _
 |_::r,i+1=>Nat.succ_le_succ (mW r i)
theorem nW (its:!Value):∀(k:Nat) (acc:!Value),
  List.foldl (λx1 x2=>x1++x2) acc.toArray (List.replicate k its.toArray)=(acc++(List.replicate k its).flatten).toArray
 |0,acc=>by simp
 |k+1,acc=>by
  let e:acc.toArray++its.toArray=(acc++its).toArray:=by simp
  let e2:(acc++its)++(List.replicate k its).flatten=acc++(List.replicate (k+1) its).flatten:=by
   rw[BB,List.flatten_cons,List.append_assoc]
  rw[<-e2,<-nW its k (acc++its),<-e,BB,List.foldl_cons]
section
variable {X:Cx} {pins:!(Addr×Obj)} {σ:St} {H:Hp} {s:Shared} {l b:Addr} {xs ys zs:!V}
theorem vC.lset {j its':!Value} {n:Nat} {f:Array Value->Array Value} {t':Nat} (D:vC X pins σ H s) (F:H l>(.lst xs))
  (e:s.heap.get? l>{cls:=.type "list",data:=.seq j.toArray n}) (O:f j.toArray=its'.toArray) (V:zC ys its') (hz:ys.length<=sizeLine):
  vC X pins σ (upd H l (.lst ys)) {s with heap:=s.heap.update l (Obj.mapSeq f),toks:=t'}:=by
 let q:=PySem.IsL.update e f;rw[O] at q;show D.write (x:=l) (e:=l) (by rw[F];show trivial) (.inl rfl) (λW u J U=>(HB s.heap (Obj.mapSeq f) (Ne.symm J)).trans U) ⟨_,q⟩ ?_;show(hz,its',_,V,q)
theorem vC.lnew {j:!Value} {t':Nat} (D:vC X pins σ H s) (F:zC ys j) (hz:ys.length<=sizeLine):
  vC X pins σ (upd H s.heap.objs.size (.lst ys)) {s with heap:=s.heap.push {cls:=.type "list",data:=.seq j.toArray},toks:=t'}:=
 D.laid (λο ο q=>uA _ q) (pA _) (hz,j,0,F,HA _ rfl)
theorem vC.fresh (I:vC X pins σ H s):H s.heap.objs.size=none:=I.hok.fresh (pA _)
theorem vC.lstM (q:vC X pins σ H s) (D:H l>(.lst xs)):xs.length<=sizeLine/\∃(j:!Value) (n:Nat),zC xs j/\xs.length=j.length/\s.heap.get? l>{cls:=.type "list",data:=.seq j.toArray n}:=by
 let(F,j,n,r,e):=q.hok l _ D;show(F,j,n,r,r.length,e)
theorem zG {n:Nat} (h:n<=sizeLine):Builtin.List.listTooLong n=false:=by
 unfold Builtin.List.listTooLong;show zA ⋯
end
section
variable {X:Cx}
def rAppend:V->!V->Hp->VK->Prop:=λx vs H Q=>∃l xs y,x=.ref l/\vs=[y]/\H l>(.lst xs)/\xs.length < sizeLine/\Q .non (upd H l (.lst (xs++[y])))
theorem BH:HQ X "list.append" rAppend:=by
 intro Z s a1 H x vs v us Q j V U h;let(l,xs,y,rfl,rfl,D,hz,q):=h;cases V;let(u,rfl,O):=U.one;let(a0,J,n,r,W,e):=j.lstM D;show call_meets F.slot_list_append (_,e,rfl) F.entry_list_append (F.args_list_append_2 _ _) (PySem.list_append l J.toArray n u (by rw[CA];omega)) ⟨e,?_⟩;show(.non,_,j.lset (its':=J++[u]) D e (by simp) (r.append (.cons O .nil)) ?_,rfl,q);rw[jA,List.length_singleton];omega
def rExtend:V->!V->Hp->VK->Prop:=λx vs H Q=>∃l b xs zs,x=.ref l/\vs=[.ref b]/\H l>(.lst xs)/\H b>(.lst zs)/\xs.length+zs.length<=sizeLine/\Q .non (upd H l (.lst (xs++zs)))
theorem NZ:HQ X "list.extend" rExtend:=by
 intro a6 s a8 H x vs v us Q J a3 a2 h;let(l,b,xs,zs,rfl,rfl,O,V,hz,q):=h;cases a3;let(u,rfl,a1):=a2.one;cases a1;let(a7,j,n,r,a4,e):=J.lstM O;let(z2,D,Z,a0,a5,U):=J.lstM V;let hsz:j.toArray.size+D.toArray.size<=sizeLine:=by rw[CA,CA];omega
 let W:¬(not j.toArray.isEmpty&&Builtin.List.listTooLong (j.toArray.size+D.toArray.size))=true:=by
  rw[zG hsz,Bool.and_false];show lA
 show call_meets F.slot_list_extend (_,e,rfl) F.entry_list_extend (F.args_list_extend_2 _ _)
  (AutoSeq1.list_extend_list_list_0 l j.toArray n b D.toArray Z W (by rw[CA];omega) ⋯) (e,U,?_)
 show(.non,_,J.lset (its':=j++D) O e (by simp) (r.append a0) ?_,rfl,q);rw[jA];omega
def rPopAt:V->!V->Hp->VK->Prop:=λx vs H Q=>∃l xs i k y,x=.ref l/\vs=[.int i]/\H l>(.lst xs)/\ -(2 ^ 63)<=i/\i < 2 ^ 63/\seqIndex? i xs.length>k/\xs[k]?>y/\Q y (upd H l (.lst (xs.eraseIdx k)))
theorem OZ:HQ X "list.pop" rPopAt:=by
 intro a5 s a7 H x vs v us Q D a4 a2 h;let(l,xs,i,k,y,rfl,rfl,J,O,U,V,a0,q):=h;cases a4;let(u,rfl,a1):=a2.one;let(t,rfl):=a1;let(a6,j,n,r,W,e):=D.lstM J;let(w,Z,a3):=r.get a0;show call_meets F.slot_list_pop (_,e,rfl) F.entry_list_pop (F.args_list_pop_2 _ _)
  (MeetsSeq.list_pop_at l j.toArray n i t k w (fitsIndex_both O U) (by rw[CA,<-W];show V) (by rw[<-QB];show Z) (by rw[CA];omega)) ⟨e,?_⟩
 show(y,_,D.lset (its':=j.eraseIdx k) J e ?_ (r.eraseIdx k) ?_,a3,q)
 .change j.toArray.eraseIdxIfInBounds k=(j.eraseIdx k).toArray;rw[List.eraseIdxIfInBounds_toArray]
 .have:=mW xs k;omega
def rCat:R2:=λx y H Q=>∃l b xs zs,x=.ref l/\y=.ref b/\H l>(.lst xs)/\H b>(.lst zs)/\xs.length+zs.length<=sizeLine/\∀p,H p=none->Q (.ref p) (upd H p (.lst (xs++zs)))
theorem uJ:yF X (binaryOp .Add) rCat:=by
 intro a4 s a6 H x y v u Q j Z a0 h;let(l,b,xs,zs,rfl,rfl,V,U,hz,q):=h;cases Z;cases a0;let(a5,D,n,r,a1,e):=j.lstM V;let(z2,F,a3,W,a2,J):=j.lstM U;show PySem.P.add_list e J ?_ (by rw[CA,CA];omega);let O:D.toArray++F.toArray=(D++F).toArray:=by simp
 rw[O];show(.ref _,_,j.lnew (t':=s.toks) (r.append W) (by rw[jA];omega),rfl,q _ j.fresh)
def rRep:R2:=λx y H Q=>∃l k xs,x=.ref l/\y=.int k/\H l>(.lst xs)/\ -(2 ^ 63)<=k/\k < 2 ^ 63/\xs.length * k.toNat<=sizeLine/\
 ∀p,H p=none->Q (.ref p) (upd H p (.lst (List.replicate k.toNat xs).flatten))
theorem PZ {q:Type} (xs:!q) (k:Nat):(List.replicate k xs).flatten.length=k * xs.length:=by
 induction k with
 |zero=>simp
 |succ k j=>rw[BB,List.flatten_cons,jA,j,Nat.succ_mul,Nat.add_comm]
theorem pW:yF X (binaryOp .Mult) rRep:=by
 intro a9 s ab H x y v u Q D a7 a8 h;let(l,k,xs,rfl,rfl,a0,W,Z,hz,q):=h;cases a7;let(t,rfl):=a8;let(aa,j,n,r,a3,e):=D.lstM a0;let a4:j.toArray.size * k.toNat<=sizeLine:=by rw[CA,<-a3];show hz
 let a1:¬GT.gt (j.toArray.size * k.toNat) ((2 ^ 63 - 1) / 8):=by
  have:(sizeLine:Nat)<=(2 ^ 63 - 1) / 8:=by decide
  omega
 let a2:¬(not (Builtin.List.listFitsIndex k))=true:=by
  rw[fitsIndex_both W Z];show lA
 let a5:¬Builtin.List.listTooLong (j.toArray.size * k.toNat)=true:=by
  rw[zG a4];show lA
 let a6:List.foldl (λJ O=>J++O) #[] (List.replicate (if j.toArray.isEmpty=true then 0 else k.toNat) j.toArray)=(List.replicate k.toNat j).flatten.toArray:=by
  let V:∀m:Nat,List.foldl (λJ O=>J++O) #[] (List.replicate m j.toArray)=(List.replicate m j).flatten.toArray:=λm=>by
   have:=nW j m [];rw[List.nil_append] at this;show this
  rw[V];cases j with
  |nil=>simp
  |cons a r'=>rw[gA (by simp)]
 show wpAny_binaryOp_repeat_ref (T:="list") (U:="int") (by decide) (_,e,rfl) (λs'=>typeIs_int s' k t) noFill_list_mul F.fills_int_mul F.slot_int_rmul repeat_list F.slot_int_index.lookup
  (call_meets F.slot_int_rmul (typeIs_int s k t) F.entry_int_rmul (F.args_int_rmul_2 _ _) (int___rmul___int_list k t l j.toArray n)
   (e,rfl,(_,e,rfl),call_meets F.slot_list_mul (_,e,rfl) F.entry_list_mul (F.args_list_mul_2 _ _) (AutoListH.list___mul___list_int_3 l j.toArray n k t a2 a1 a5) ⟨e,?_⟩))
 rw[a6];show(.ref _,_,D.lnew (t':=s.toks) (r.rep k.toNat) (by rw[PZ,Nat.mul_comm];show hz),rfl,q _ D.fresh)
end
section
variable {prog:Program} {w:World} {A:Around} {E:Value->Shared->Prop} {s:Shared}
end
section
variable {X:Cx}
end
section
variable {κ:Type} [DecidableEq κ]
def tD (kvs:!(κ×V)) (k:κ):Option V:=(kvs.find? λkv=>decide (kv.1=k)).map (·.2)
def lE (kvs:!(κ×V)) (k:κ) (v:V):!(κ×V):=
 if (kvs.any λkv=>decide (kv.1=k))=true then kvs.map (λkv=>if kv.1=k then (kv.1,v) else kv) else kvs++[(k,v)]
def XF (kvs:!(κ×V)) (k:κ):!(κ×V):=kvs.filter λkv=>decide (kv.1≠k)
theorem tN {p:κ×V} {r:!(κ×V)} {k:κ} (e:p.1=k):tD (p::r) k>p.2:=by simp[tD,List.find?_cons,e]
theorem jM {p:κ×V} {r:!(κ×V)} {k:κ} (e:¬p.1=k):tD (p::r) k=tD r k:=by simp[tD,List.find?_cons,e]
theorem IQ (k:κ):∀kvs:!(κ×V),(kvs.any λkv=>decide (kv.1=k))=(tD kvs k).isSome
 |[]=>rfl
 |p::r=>by
  rw[List.any_cons];by_cases e:p.1=k
  .simp only[tN e,BA e,Bool.true_or,Option.isSome_some]
  .rw[jM e,zA e,Bool.false_or];show IQ k r
theorem JQ (j:!(κ×V)) (k:κ) (v:V):(lE j k v).length<=j.length+1:=by
 unfold lE
 split
 .rw[fA];omega
 .rw[jA,NA,List.length_nil];omega
theorem ME.isSome_eq {o:Option V} {u:Option Value} (r:ME o u):o.isSome=u.isSome:=by
 cases o with
 |none=>cases u with
  |none=>rfl
  |some _=>show (show False from r).elim
 |some _=>cases u with
  |none=>show (show False from r).elim
  |some _=>rfl
theorem ME.getD {o:Option V} {u:Option Value} {j:V} {d':Value} (r:ME o u) (q:DC j d'):DC (o.getD j) (u.getD d'):=by
 cases o with
 |none=>cases u with
  |none=>show q
  |some _=>show (show False from r).elim
 |some _=>cases u with
  |none=>show (show False from r).elim
  |some _=>show r
theorem KV.any {q:!(κ×V)} {vs:!(κ×Value)} (r:KV q vs) (k:κ):(q.any λj=>decide (j.1=k))=vs.any λj=>decide (j.1=k):=by
 unfold KV at r
 induction r with
 |nil=>rfl
 |cons h t D=>rw[List.any_cons,List.any_cons,D,h.1]
theorem KV.repl {F:!(κ×V)} {vs:!(κ×Value)} (r:KV F vs) (k:κ) {y:V} {u:Value} (O:DC y u):
  KV (F.map λj=>if j.1=k then (j.1,y) else j) (vs.map λj=>if j.1=k then (j.1,u) else j):=by
 unfold KV at r ⊢
 induction r with
 |nil=>show .nil
 |@cons p q ps qs h t ih=>
  rw[AA,AA];show .cons ?_ ih;let(D,J):=h;by_cases e:p.1=k
  .rw[iA e,iA (D.symm.trans e)];show⟨D,O⟩
  .rw[gA e,gA (λU=>e (D.trans U))];show⟨D,J⟩
theorem KV.put {j:!(κ×V)} {vs:!(κ×Value)} (r:KV j vs) (k:κ) {y:V} {u:Value} (q:DC y u):KV (lE j k y) (stored vs k u):=by
 unfold lE stored;rw[r.any k];by_cases e:(vs.any λD=>decide (D.1=k))=true
 .rw[iA e,iA e];show r.repl k q
 .rw[gA e,gA e];show Paired.snoc r ⟨rfl,q⟩
theorem KV.length {j:!(κ×V)} {vs:!(κ×Value)} (r:KV j vs):j.length=vs.length:=Paired.length r
theorem QZ (j:!(κ×V)) (k:κ):(XF j k).length<=j.length:=gC _ _
end
theorem vJ {P:Program} {w:World} {k:Key} {u:Value} (r:DC (kV k) u):(aD P w).is k u=true:=by
 cases k with
 |inl i=>let(t,e):=(show ∃t,u=Value.int i t from r);subst e;show bZ P w i t
 |inr x=>let(t,e):=(show ∃t,u=Value.str x t from r);subst e;show cZ P w x t
theorem qW {P:Program} {w:World}:∀{ks:!Key} {us:!Value},zC (ks.map kV) us->ItemsAre (aD P w) ks us
 |[],_,r=>by rw[cC] at r;cases r;show .nil
 |k::ks,_,r=>by
  rw[AA] at r;cases r with
  |cons h t=>show .cons (vJ h) (qW t)
abbrev KT (H:Hp):!(!Key×V)->!(!Key×Addr×Value)->Prop:=Paired λp q=>p.1=q.1/\H q.2.1>(.tup (p.1.map kV))/\DC p.2 q.2.2
theorem KT.val {H:Hp} {F:!(!Key×V)} {xs:!(!Key×Addr×Value)} (r:KT H F xs) (k:!Key):ME (tD F k) ((atKey xs k).map (·.2)):=by
 induction r with
 |nil=>show True.intro
 |@cons p q ps qs h t ih=>
  let(D,_,J):=h;by_cases e:p.1=k
  .let j:q.1=k:=D.symm.trans e;let b:atKey (q::qs) k>q.2:=by simp[atKey,List.find?_cons,j]
   rw[tN e,b];show J
  .let j:¬q.1=k:=λO=>e (D.trans O);let b:atKey (q::qs) k=atKey qs k:=by simp[atKey,List.find?_cons,j]
   rw[jM e,b];show ih
theorem KT.repl {H:Hp} {J:!(!Key×V)} {xs:!(!Key×Addr×Value)} (r:KT H J xs) (k:!Key) {y:V} {u:Value} (U:DC y u):
  KT H (J.map λD=>if D.1=k then (D.1,y) else D) (xs.map (putAt k u)):=by
 induction r with
 |nil=>show .nil
 |@cons p q ps qs h t ih=>
  rw[AA,AA];show .cons ?_ ih;let(j,F,O):=h;unfold putAt;by_cases e:p.1=k
  .rw[iA e,iA (j.symm.trans e)];show(j,F,U)
  .rw[gA e,gA (λW=>e (j.trans W))];show(j,F,O)
theorem KT.put {H:Hp} {j:!(!Key×V)} {xs:!(!Key×Addr×Value)} (r:KT H j xs) (k:!Key) {b:Addr} {y:V} {u:Value} (F:H b>(.tup (k.map kV))) (D:DC y u):
  KT H (lE j k y) (storedH xs k b u):=by
 let e:(j.any λJ=>decide (J.1=k))=(atKey xs k).isSome:=by
  rw[IQ,(r.val k).isSome_eq,Option.isSome_map]
 unfold lE storedH;rw[e];by_cases q:(atKey xs k).isSome=true
 .rw[iA q,iA q];show r.repl k D
 .rw[gA q,gA q];show Paired.snoc r (rfl,F,D)
theorem KT.keeps {H q:Hp} {D:!(!Key×V)} {xs:!(!Key×Addr×Value)} (r:KT H D xs) (J:∀b F,H b>(.tup F)->q b>(.tup F)):KT q D xs:=
 Paired.mapP r λο ο j=>(j.1,J _ _ j.2.1,j.2.2)
section
variable {P:Program} {w:World} {H:Hp} {h:Heap} {a:Addr}
theorem wJ {u:HO} (ok:qE P w H h) (e:Rd H a u):MC P w H h a u:=e.ok ok
theorem xJ {j:!(Key×V)} (ok:qE P w H h) (e:Rd H a (.dK j)):j.length<=sizeLine/\(a == sysModules)=false/\∃vs,KV j vs/\h.DictOf (aD P w) a vs:=
 show MC P w H h a (.dK j) from wJ ok e
theorem uN {j:!(Key×V)} (ok:qE P w H h) (e:H a>(.dK j)):j.length<=sizeLine/\(a == sysModules)=false/\∃vs,KV j vs/\h.DictOf (aD P w) a vs:=xJ ok (.inl e)
theorem vN {ks:!Key} (ok:qE P w H h) (e:H a>(.tup (ks.map kV))):(tupleKind (aD P w)).is h ks a:=by
 let(_,F,r,o,j,q,n,D):=(show MC P w H h a (.tup (ks.map kV)) from ok a _ e)
 show(o,F.toArray,n,j,q,D,by simpa using qW r)
theorem KQ {D:!(!Key×V)} (ok:qE P w H h) (e:Rd H a (.dT D)):D.length<=sizeLine/\(a == sysModules)=false/\
  ∃xs,KT H D xs/\h.DictOfH (tupleKind (aD P w)) a xs:=by
 let(Z,y,xs,r,o,es,ep,F,J,O,U,W):=(show MC P w H h a (.dT D) from wJ ok e)
 show(Z,y,xs,r,o,es,ep,F,J,O,U,λx j=>?_,W);let all:∀{l:!(!Key×V)} {m:!(!Key×Addr×Value)},KT H l m->∀x∈m,(tupleKind (aD P w)).is h x.1 x.2.1:=by
  intro l m q
  induction q with
  |nil=>intro x j;show nomatch j
  |@cons p q ps qs hq t ih=>
   intro x j;let e||j:=xA.mp j
   .subst e;show vN ok (by rw[<-hq.1];show hq.2.1)
   .show ih x j
 show all r x j
theorem yJ {j:!(!Key×V)} (ok:qE P w H h) (e:H a>(.dT j)):j.length<=sizeLine/\(a == sysModules)=false/\
 ∃xs,KT H j xs/\h.DictOfH (tupleKind (aD P w)) a xs:=KQ ok (.inl e)
end
def RI (H:Hp) (a:Addr) (y:V) (r:Option V):Prop:=
 (∃kvs k,Rd H a (.dK kvs)/\y=kV k/\r=tD kvs k)\/∃kvs k b,Rd H a (.dT kvs)/\y=.ref b/\H b>(.tup (k.map kV))/\r=tD kvs k
def CH (H:Hp) (a:Addr) (y v:V) (H':Hp):Prop:=
 (∃kvs k,H a>(.dK kvs)/\y=kV k/\kvs.length < sizeLine/\H'=upd H a (.dK (lE kvs k v)))\/
 ∃kvs k b,H a>(.dT kvs)/\y=.ref b/\H b>(.tup (k.map kV))/\kvs.length < sizeLine/\H'=upd H a (.dT (lE kvs k v))
theorem RI.k {H:Hp} {a:Addr} {j:!(Key×V)} {k:Key} (e:H a>(.dK j)):RI H a (kV k) (tD j k):=.inl (j,k,.inl e,rfl,rfl)
theorem RI.t {H:Hp} {a b:Addr} {j:!(!Key×V)} {k:!Key} (e:H a>(.dT j)) (q:H b>(.tup (k.map kV))):RI H a (.ref b) (tD j k):=.inr (j,k,b,.inl e,rfl,q,rfl)
theorem CH.k {H:Hp} {a:Addr} {j:!(Key×V)} {k:Key} {v:V} (e:H a>(.dK j)) (q:j.length < sizeLine):CH H a (kV k) v (upd H a (.dK (lE j k v))):=.inl (j,k,e,rfl,q,rfl)
theorem CH.t {H:Hp} {a b:Addr} {j:!(!Key×V)} {k:!Key} {v:V} (e:H a>(.dT j)) (q:H b>(.tup (k.map kV))) (D:j.length < sizeLine):
 CH H a (.ref b) v (upd H a (.dT (lE j k v))):=.inr (j,k,b,e,rfl,q,D,rfl)
section
variable {X:Cx} {pins:!(Addr×Obj)} {σ:St} {H:Hp} {s:Shared} {a:Addr} {y v:V} {u r:Value} {o:Option V} {A:Around} {E:Value->Shared->Prop}
theorem vC.big (I:vC X pins σ H s):sysModules < s.heap.objs.size:=by
 let h:mainGlobals < s.heap.objs.size:=(I.mod.glob.keeps I.bk).lt;show Nat.lt_trans (by decide) h
theorem wN {h':Heap} {t':Nat} {ob:HO} (j:vC X pins σ H s) (O:NM (H a)) (J:Heap.SameBut a s.heap h') (F:∃q,h'.get? a>q) (new:MC X.prog X.w (upd H a ob) h' a ob):
  vC X pins σ (upd H a ob) {s with heap:=h',toks:=t'}:=
 j.write (x:=a) (e:=a) O (.inl rfl) (λb q D U=>(J.2 b D).trans U) F new
theorem zK {P:Program} {w:World} {q:Hp} {h':Heap} {j:!(Key×V)} {vs:!(Key×Value)} (F:j.length<=sizeLine) (hd:(a == sysModules)=false) (D:KV j vs) (dd:h'.DictOf (aD P w) a vs):
 MC P w q h' a (.dK j):=(F,hd,vs,D,dd)
theorem RZ {a1:Hp} {Q:Unit->Shared->Prop} (ab:A.units+1 < cLine) (j:vC X pins σ H s) (g:CH H a y v a1) (a5:DC y u) (a4:DC v r) (h:∀s',vC X pins σ a1 s'->Q ⟨⟩ s'):
  wpAny (model X.prog X.w) A (setItem (.ref a) u r) Q E s:=by
 let(D,k,e,W,l,V)||(D,k,b,e,W,a2,l,V):=g
 .subst W V;let(J,hd,vs,F,dd):=uN j.hok e;let hz:vs.length<=sizeLine:=by rw[<-F.length];show J
  let Z:(lE D k v).length<=sizeLine:=by have:=JQ D k v;omega
  show wpAny_setItem_pairs (hsz:=hz) (vJ a5) dd λh' O a0=>h _ ?_;let aa:∃q,h'.get? a>q:=let ⟨q,_,_,U,_⟩:=O;⟨q,U⟩
  show wN j (by rw[e];show True.intro) a0 aa (zK Z hd (F.put k a4) O)
 .subst W V;cases (show u=Value.ref b from a5);let(J,hd,xs,F,dd):=yJ j.hok e;let hz:xs.length<=sizeLine:=by rw[<-Paired.length F];show J
  let Z:(lE D k v).length<=sizeLine:=by have:=JQ D k v;omega
  show wpAny_setItem_heap (hsz:=hz) (tupleKind_room_in1 ab) (vN j.hok a2) dd λh' O a0=>h _ ?_;let(q,es,ep,U,a6,a7,a8,_,a9):=O;show wN j (by rw[e];show True.intro) a0 ⟨q,U⟩ (Z,hd,_,(F.put k a2 a4).keeps λc ac a3=>?_,q,es,ep,U,a6,a7,a8,a9);rw[sC (HD a3 e nofun)];show a3
end
section
variable {X:Cx} {pins:!(Addr×Obj)} {σ:St} {H:Hp} {s:Shared} {a:Addr} {kvs:!(Key×V)} {k:Key} {u:Value} {A:Around} {E:Value->Shared->Prop}
end
def zJ (td ty tv:TE):TS:=λD σ H=>tv σ H λv H1=>td σ H1 λx H2=>ty σ H2 λy H3=>∃a H4,x=.ref a/\CH H3 a y v H4/\D.nx σ H4
section
variable {X:Cx} {o i e value:Expr} {pos pos' tpos:Pos} {td ty tv:TE}
theorem SZ (a3:X.A.units+1 < cLine) (a1:PE X o td) (a0:PE X i ty) (a4:PE X value tv) (a2:swapsWith value (some (.Subscript o i pos')) pos.line X.env=pure false):
  PS X (.Assign [.Subscript o i pos'] value pos) (zJ td ty tv):=by
 intro q s j H ad O h;show wpAny_Assign_Subscript (cD (a4 q s j H _ O h) λr s1 ⟨v,D,U,a8,a5⟩=>cD (a1 q s1 j D _ U a5) λu ab ⟨x,F,V,a9,a6⟩=>cD (a0 q ab j F _ V a6) λaf ag ac=>?_) a2;let(y,ae,W,aa,a,J,ex,g,a7):=ac;subst ex;obtain rfl:u=Value.ref a:=a9;show RZ a3 W g aa a8 λah Z=>(j,J,Z,a7)
end
theorem rW {P:Program} {w:World} {H:Hp} (h:Heap) (j:sysModules < h.objs.size):MC P w H (h.push {cls:=.type "dict",data:=.dict #[]}) h.objs.size (.dT []):=
 (LB _,beq_eq_false_iff_ne.mpr (Ne.symm (SA j)),[],.nil,_, #[],0,HA _ rfl,(rfl,rfl,rfl),rfl,rfl,UB)
def tDNewT:TE:=λο H Q=>∀p,H p=none->Q (.ref p) (upd H p (.dT []))
section
variable {X:Cx} {pos:Pos}
theorem sW:PE X (.Dict [] [] pos) tDNewT:=λD s F H Q j h=>
 wpAny_Dict_empty (.ref s.heap.objs.size,_,j.laid (a:=s.heap.objs.size) (o:=.dT []) (t':=s.toks) (λο ο q=>uA _ q) (pA _) (rW s.heap j.big),rfl,h _ (j.hok.fresh (pA _)))
end
structure M1 (X:Cx) (o:Expr) (m:Str) (apos:Pos) (e:Expr) (cpos:Pos):Prop where
 base:attributeBase o m X.env (eval o X.env)=eval o X.env
 few:((backTo cpos (starEach [e] X.env)).all (λx=> not x.1)&&(backToKw cpos (keywordEach [] X.env)).all (λx=>x.1.isSome)
  &&decide (([e]:!Expr).length+([]:!Keyword).length+(if ([]:!Keyword).isEmpty then 0 else 1) < 30))=true
 line:(apos.endLine == cpos.line)=true
 trees:backTo cpos (starEach [e] X.env)=[(false,eval e X.env)]
structure M2 (X:Cx) (o:Expr) (m:Str) (apos:Pos) (e f:Expr) (cpos:Pos):Prop where
 base:attributeBase o m X.env (eval o X.env)=eval o X.env
 few:((backTo cpos (starEach [e,f] X.env)).all (λx=> not x.1)&&(backToKw cpos (keywordEach [] X.env)).all (λx=>x.1.isSome)
  &&decide (([e,f]:!Expr).length+([]:!Keyword).length+(if ([]:!Keyword).isEmpty then 0 else 1) < 30))=true
 line:(apos.endLine == cpos.line)=true
 trees:backTo cpos (starEach [e,f] X.env)=[(false,eval e X.env),(false,eval f X.env)]
def LQ (H:Hp) (a:Addr):Prop:=(∃kvs,Rd H a (.dK kvs))\/∃kvs,Rd H a (.dT kvs)
theorem tW {X:Cx} {U:!(Addr×Obj)} {V:St} {H:Hp} {s:Shared} {a:Addr} (F:vC X U V H s) (J:LQ H a):
  s.TypeIs (.ref a) "dict"/\(∀b,Value.ref a=.ref b->∃ob,s.heap.get? b>ob/\ob.dict=none)/\(a == sysModules)=false:=by
 let(O,e)||(O,e):=J
 .let(_,hd,vs,_,dd):=xJ F.hok e;show(dd.typeIs,λb q=>?_,hd);cases q;let(ob,_,_,j,D,_):=dd;show(ob,j,D.2.1)
 .let(_,hd,xs,_,dd):=KQ F.hok e;show(dd.typeIs,λb q=>?_,hd);cases q;let(ob,_,_,j,D,_):=dd;show(ob,j,D.2.1)
section
variable {X:Cx} {pins:!(Addr×Obj)} {σ:St} {H:Hp} {s:Shared} {a:Addr} {y d:V} {u r:Value} {o:Option V} {A:Around} {E:Value->Shared->Prop}
end
section
variable {X:Cx} {o e f:Expr} {apos cpos:Pos} {td ty tx:TE}
end
section
variable {X:Cx} {pins:!(Addr×Obj)} {σ:St} {H:Hp} {s:Shared} {a:Addr} {kvs:!(Key×V)} {A:Around} {E:Value->Shared->Prop}
end
section
variable {X:Cx} {pins:!(Addr×Obj)} {σ:St} {H:Hp} {s:Shared} {a:Addr} {y:V} {u:Value} {A:Around} {E:Value->Shared->Prop}
end
end L2
namespace Att
open PySem PySem.W PySem.Calls PyProof.Rows
theorem TZ {P:Params} {h:Heap}:∀(ns:!Int) (vs:!Value),WellAll P h vs (ns.map WData.int)->IntsAre vs ns:=by
 intro ns
 induction ns with
 |nil=>
  intro vs w;rw[cC] at w;cases w;show .nil
 |cons n ns j=>
  intro vs w;rw[AA] at w;cases w with
  |cons a b=>
   cases a;show .cons _ _ (j _ b)
theorem UZ {l:OpenLaw} {n:Nat} (a1:l.most>n) {P:Params} {h:Heap} {args:!WData} {O:!Value}
  (J:l.row.toRowW.claim.pre args=true) (a4:WellAll P h O args):
  ∃a vs ns,O=[Value.ref a]/\args=[WData.list (ns.map WData.int)]/\h.get? a>{cls:=.type "list",data:=.seq vs.toArray}/\IntsAre vs ns/\ns.length<=n:=by
 let a3:WShape.hasAll [] args [.list .int]=true:=(pre_splitW J).1;let F:l.pre.holds [] {args:=args}=true:=(pre_splitW J).2;let(a7,r,rfl,U,V):=hasAllW_cons a3;obtain rfl:=hasAllW_nil V;let(xs,rfl,W):=hasW_list U;let(ns,rfl):=items_int W;let a0:ns.length<=n:=by
  unfold OpenLaw.pre at F;let j:(WTm.not (.lt (.lit (.int (n:Int))) (.len (.arg 0)))).holds [] {args:=[.list (ns.map .int)]}=true:=by
   let j:=(holds_andW F).1;rw[a1] at j;show j
  let D:=condW_of j (w_not (w_lt w_lit (w_len_list (w_arg rfl))));rw[fA] at D;show Nat.le_of_not_lt λq=>?_;let q':(n:Int) < ((ns.length:Nat):Int):=⋯
  first
   |(rw[BA q'] at D;show absurd D (by decide))
   |(simp at D;omega)
 cases a4 with
 |cons a5 a6=>
  cases a6;cases a5 with
  |list a2 Z=>show(_,_,ns,rfl,rfl,a2,TZ ns _ Z,a0)
theorem VZ (l:OpenLaw) (args:!WData):l.row.toRowW.claim.post args (.bool true) args=true:=
 postW_of (r:=l.row.toRowW) (X:=(true == true))
  (show WShape.has [] (.bool true) .bool=true by first|rfl|decide|simp[WShape.has,WShape.arms,WShape.armsAll])
  (show (WTm.eq .res (.lit (.bool true))).value [] {args:=args,res:=some (.bool true),after:=args}>(.bool (true == true)) from w_eq_bool (w_res rfl) w_lit) rfl
theorem WZ {l:OpenLaw} {n:Nat} {q:Program} {loose:!Str} {XP:(Str->Option Value)->Heap->Prop} {YP:World->Heap->Prop} {D:DefRec}
  (ab:l.most>n) (a5:D.params.defaults=[])
  (call:∀(w:World) (V j:Shared) (mg U:Str->Option Value) (F:Addr) (o:Obj) (pm J O:Value) (a:Addr) (vs:!Value) (ns:!Int),
   Ground q loose [] XP w V mg U j.heap->YP w j.heap->
   j.heap.get? F>o->o.data=.func (docDef D.name D.params D.body D.scope pm J O)->j.heap.CodeRec J D.name->mg D.name=↑F->
   j.heap.get? a>{cls:=.type "list",data:=.seq vs.toArray}->IntsAre vs ns->ns.length<=n->j.gens= #[]->
   codeAny (model l.prog w) callerA (.call (.ref F) ⟨[.ref a],[]⟩) (λr s'=>r=.ok (.ret (.bool true))/\OldK j.heap s'.heap/\s'.os=j.os/\AllBare s'.gens) j):
  WalkO q loose XP YP l.row.toRowW D [] (λf vs=>PySem.call f vs):=by
 intro w V j mg U G Z F o pm J O a0 kV ac hd a4 W aa a6 args ak as ae ah aj ag ai;obtain rfl:a0=.none:=Dflts.none W a5;obtain rfl:kV=.none:=Dflts.noKw W;let(a,vs,ns,rfl,rfl,ad,a7,a8):=UZ ab ae ag;show enter_call (codeAny_mono (call w V j mg U F o pm J O a vs ns G Z ac (fd_plain hd) a4 aa ad a7 a8 a6) λr s' af=>?_);let(rfl,a1,a2,a3):=af;show(.inl (.bool true,.bool true,[],rfl,λο=>rfl,.bool true,VZ l _,λο=>⟨List.Pairwise.nil,λο a9=>(nomatch a9)⟩),a1,a2,a3)
section
variable {prog:Program} {w:World} {A:Around} {E:Value->Shared->Prop} {s:Shared} {K:Frag}
def ledger (h:Heap) (L d:Addr):!(Addr×Obj):=(List.range h.objs.size).filterMap λa=>if a=L\/a=d then none else (h.get? a).map λo=>(a,o)
end
end Att
namespace L2
open PySem PySem.Spec PyProof.Rows
theorem uW:∀{vs:!Value} {ns:!Int},IntsAre vs ns->zC (ns.map V.int) vs
 |_,_,.nil=>.nil
 |_,_,.cons n t h=>.cons ⟨t,rfl⟩ (uW h)
def AK (H:Hp):Prop:=∀b,H b=none\/∃o xs,H b>(.frz o (.lst xs))
theorem XZ {P:Program} {w:World} {K:PySem.W.Frag} {mg a3:Str->Option Value} {CX:CXT} {k:Nat} {a1 a:Addr} {a8:FuncData} {x:Str} {sp:Sp} {j:Shared} {vs:!Value} {ns:!Int}
  (a4:K.In j.heap) (ae:j.heap.Ns mainGlobals mg) (J:j.heap.Ns builtinsNs a3) (aq:∀x:Str,x≠"__name__"->a3 x=bootBuiltins x) (av:j.heap.NoLimit) (au:j.gens= #[])
  (W:j.heap.get? a>{cls:=.type "list",data:=.seq vs.toArray}) (ac:IntsAre vs ns) (ad:ns.length<=sizeLine) (ax:FD k callerA)
  (F:∀base:Heap,K.In base->base.Ns mainGlobals mg->QE P w K mg base CX k a1 a8 [x] sp) (ar:∀(s:Shared) (u:Value),BindsTo s a8 ⟨[u],[]⟩ [(x,u)])
  (ay:∀H:Hp,AK H->uC K H a (ns.map V.int)->sp [.ref a] H (λv ο=>v=.bl true) λο ο ο=>False)
  (al:∀H e s',CX [] H j (λο ο ο=>False) e s'->False):
  codeAny (model P w) callerA (.call (.ref a1) ⟨[.ref a],[]⟩) (λr s'=>r=.ok (.ret (.bool true))/\OldK j.heap s'.heap/\s'.os=j.os/\AllBare s'.gens) j:=by
 let ag:=uW ac;let az:=ac.length;let a6:∀H:Hp,AK H->uC K H a (ns.map V.int)->qE P w H j.heap->(∀b,H b≠none->b=a)->(H a≠none->K.lookup a=none)->
   codeAny (model P w) callerA (.call (.ref a1) ⟨[.ref a],[]⟩) (λr s'=>r=.ok (.ret (.bool true))/\OldK j.heap s'.heap/\s'.os=j.os/\AllBare s'.gens) j:=by
  intro H ab ap af a9 am;let a5:∀{b:Addr} {o:Obj},j.heap.get? b>o->H b=none->(fG j.heap H).get? b>o:=λe n=>fZ e n;let b0:∀{b:Addr} {o:Obj} {es:Array DictEntry} {ep:Nat},j.heap.get? b>o->o.data=.dict es ep->H b=none:=λ{b o es ep} e U=>by
   cases q:H b with
   |none=>rfl
   |some u=>
    let a0:b=a:=a9 b (by rw[q];simp);subst a0;rw[W] at e;cases e;let d':Data.seq vs.toArray _=Data.dict es ep:=U;cases d'
  let Z:∀{b:Addr} {m:Str->Option Value},j.heap.Ns b m->(fG j.heap H).Ns b m:=λ{b m} ⟨o,es,ep,e,U,r⟩=>(o,es,ep,a5 e (b0 e U),U,r)
  let aa:K.In (fG j.heap H):=λb o e=>a5 (a4 b o e) (by
   cases q:H b with
   |none=>rfl
   |some u=>
    let a0:b=a:=a9 b (by rw[q];simp);subst a0;rw[am (by rw[q];simp)] at e;cases e)
  let ao:Mod K mg (fG j.heap H):=(aa,Z ae,(a3,Z J,aq),let ⟨mc,h1,h2⟩:=av;(mc,Z h1,h2))
  let ai:ZG P w K mg (fG j.heap H) callerA [] j H:=(rfl,ao,λb o e=>gZ e,Nat.le_of_eq (eZ _ _),trivial,λb J=>absurd (show b∈([]:!Addr) from J) (by simp),af,.of_eq au)
  show codeAny_mono ((F _ aa (Z ae)).run callerA [] j H ⟨[.ref a],[]⟩ [.ref a] [.ref a] _ _ ax ai (ar j (.ref a)) (.cons rfl .nil) (ay H ab ap)) λr s' h=>?_;cases r with
  |error e=>show (al H e s' h).elim
  |ok ak=>
   cases ak with
   |next=>show False.elim h
   |brk=>show False.elim h
   |cont=>show False.elim h
   |ret u=>
    let(v,b2,b1,ah,un,aw,r',q):=h;let q':v=.bl true:=q;subst q';obtain rfl:u=Value.bool true:=r';show(rfl,OldK.of_keep λb o e=>?_,b1,ah);cases q:H b with
    |none=>show un.keep b o e q (by intro D;show absurd (show b∈([]:!Addr) from D) (by simp)) (by simp)
    |some u=>
     let D||(ob,xs,D):=ab b
     .rw[q] at D;cases D
     .let z2:=un.frzs b ob _ D;let(a7,_):=af b _ D;let(aj,_):=aw b _ z2;rw[e] at a7;cases a7;show aj
 cases a2:K.lookup a with
 |some o=>
  let e:=a4 a o a2;rw[W] at e;cases e;show a6 (λο=>none) (λο=>.inl rfl) (.inr (_,vs.toArray,_,a2,rfl,rfl,rfl,by rw[CA,az];show ad,by simpa using ag)) (λb u D=>by let O:(none:Option HO)>u:=D;cases O) (λb D=>absurd rfl D) λD=>absurd rfl D
 |none=>
  show a6 (λb=>if b=a then some (.frz {cls:=.type "list",data:=.seq vs.toArray} (.lst (ns.map V.int))) else none) (λb=>?_) (.inl (.inr ⟨{cls:=.type "list",data:=.seq vs.toArray},iA rfl⟩)) (λb u D=>?_) (λb D=>?_) λο=>a2
  .by_cases J:b=a
   .show .inr (_,_,iA J)
   .show .inl (gA J)
  .by_cases J:b=a
   .let O:=(iA J).symm.trans D;cases O;subst J;show(W,by rw[fA];show ad,vs,_,ag,W)
   .let O:=(gA J).symm.trans D;cases O
  .by_cases J:b=a
   .show J
   .show absurd (gA J) D
theorem YZ {l:PySem.W.OpenLaw} {n k:Nat} {q:Program} {loose:!Str} {XP:(Str->Option Value)->Heap->Prop} {YP:World->Heap->Prop} {D:DefRec} {K:Params->PySem.W.Frag} {CX:World->CXT} {sp:World->Sp} {x:Str}
  (a9:l.most>n) (aa:n<=sizeLine) (a5:D.params.defaults=[]) (ac:FD k callerA)
  (a3:∀(w:World) (h:Heap),YP w h->(K w.params).In h)
  (F:∀(w:World) (mg:Str->Option Value) (j:Addr) (h:Heap),(K w.params).In h->h.Ns mainGlobals mg->mg D.name=↑j->
   ∃J:FuncData,(∀(s:Shared) (u:Value),BindsTo s J ⟨[u],[]⟩ [(x,u)])/\
    ∀base:Heap,(K w.params).In base->base.Ns mainGlobals mg->QE l.prog w (K w.params) mg base (CX w) k j J [x] (sp w))
  (ad:∀(w:World) (H:Hp) (a:Addr) (ns:!Int),ns.length<=n->AK H->uC (K w.params) H a (ns.map V.int)->sp w [.ref a] H (λv ο=>v=.bl true) λο ο ο=>False)
  (Z:∀(w:World) (H:Hp) (s:Shared) (e:Value) (s':Shared),CX w [] H s (λο ο ο=>False) e s'->False):
  PySem.W.WalkO q loose XP YP l.row.toRowW D [] (λf vs=>PySem.call f vs):=by
 show Att.WZ a9 a5 λw ak ae mg aj j o pm af ag a vs ns G W ai hd ah a8 ab a7 U a6=>?_;let O:=a3 w _ W;let(J,a4,a0):=F w mg j _ O G.T.g a8;show XZ O G.T.g G.T.b G.T.builtins G.T.nolimit a6 ab a7 (kB U aa) ac a0 a4 (λH a1 a2=>ad w H a ns U a1 a2) λH e s'=>Z w H ae e s'
abbrev vW:CXT:=λο ο ο ο ο ο=>False
abbrev E0:XK:=λο ο ο=>False
structure bH (K:PySem.W.Frag) (x qual:Str) (st:Stmt) (f:Addr) (fd:FuncData):Prop where
 ex:∃(oc:Value) (od:Option Addr) (kV doc pm:Value) (an:Option Addr) (cdv ct:Value) (osl:Array (Option Value)),
  fd=PySem.W.fnOf x qual (uD st) (eD st) (mC st) .none kV doc pm an cdv ct/\K.lookup f>(oc,od,.func fd,osl)/\PySem.W.codeIn K cdv qual=true
 kp:PySem.W.keepIn K (.ref f)=true
section
variable {P:Program} {w:World} {K:PySem.W.Frag} {mg:Str->Option Value} {base:Heap}
theorem bH.ok {x U:Str} {j:Stmt} {f:Addr} {W:FuncData} {N O:!Str} {k:Nat} {sp:Sp} (F:bH K x U j f W) (S:qC N O (mC j)) (len:∀vs H Q E,sp vs H Q E->vs.length=O.length)
  (a0:∀(D:Value) (A:Around) (J:!Env) (s:Shared) (H:Hp) (vs:!V) (Q:VK) (E:XK),FD k (A.deeper (envOfC U (mC j) s.heap.objs.size f D))->sp vs H Q E->
   ∃t,SF (fE vW P w K mg base N U (mC j) f D A J s H E).nox (eD j) t/\t {nx:=λο Z=>Q .non Z,rt:=Q} (HE N vs) H):QE P w K mg base vW (k+1) f W O sp:=by
 let(a6,a7,kV,a5,pm,an,D,a4,a8,rfl,lk,a1):=F.ex;show BQ lk a1 S len λA J s H vs Q E a2 a3=>?_;let(t,h,q):=a0 D A J s H vs Q E a2 a3;show(t,h.nox,q)
theorem bH.binds {x V:Str} {j:Stmt} {f:Addr} {U:FuncData} {O:!Str} (F:bH K x V j f U)
  (h:∀(kV J pm:Value) (an:Option Addr) (q D:Value) (us:!Value),us.length=O.length->bindArgs (PySem.W.fnOf x V (uD j) (eD j) (mC j) .none kV J pm an q D) ⟨us,[]⟩=pure (O.zip us)):kE K U O []:=by
 let(Z,a0,kV,J,pm,an,q,D,a1,rfl,lk,W):=F.ex;show .all (h kV J pm an q D)
theorem MQ {x D:Str} {j:Stmt} {f:Addr} {O:Value} {U an:Option Addr} {V:Array (Option Value)} {kV J pm q F:Value} (l:K.lookup f>(O,U,.func (PySem.W.fnOf x D (uD j) (eD j) (mC j) .none kV J pm an q F),V))
 (c:PySem.W.codeIn K q D=true) (k:PySem.W.keepIn K (.ref f)=true):bH K x D j f (PySem.W.fnOf x D (uD j) (eD j) (mC j) .none kV J pm an q F):=⟨(O,U,kV,J,pm,an,q,F,V,rfl,l,c),k⟩
end
theorem xN {A:Around} {k:Nat} (j:FD k A):A.units+1 < cLine:=Nat.lt_of_le_of_lt (Nat.add_le_add_left (by decide:1<=64) _) j.units
section
variable {X:Cx}
end
theorem iD {A B:Prop} (h:B):if false=true then A else B:=by
 rw[gA lA];show h
theorem nE {A B:Prop} (h:A):if true=true then A else B:=by
 rw[iA rfl];show h
theorem CF {c A B:Prop} [Decidable c] (j:c->A) (q:¬c->B):if c then A else B:=by
 by_cases h:c
 .rw[iA h];show j h
 .rw[gA h];show q h
def pC (H H':Hp):Prop:=∀b o,H b>o->H' b>o
theorem pC.trans {H j q:Hp} (a:pC H j) (b:pC j q):pC H q:=λc o h=>b c o (a c o h)
theorem pC.free {H j:Hp} (e:pC H j) {l:Addr} (h:j l=Option.none):H l=Option.none:=by
 cases q:H l with
 |none=>rfl
 |some o=>
  rw[e l o q] at h;cases h
theorem pC.seq {K:PySem.W.Frag} {H j:Hp} {a:Addr} {xs:!V} (e:pC H j) (h:uC K H a xs):uC K j a xs:=by
 rcases h with (h|⟨o,h⟩)|h
 .show .inl (.inl (e _ _ h))
 .show .inl (.inr ⟨o,e _ _ h⟩)
 .show .inr h
section
variable {κ:Type} [DecidableEq κ]
end
end L2
set_option maxHeartbeats 4000000
namespace L2
open PySem PySem.Spec PyProof.Rows
section
variable {M:Model} {A:Around} {E:Value->Shared->Prop} {s:Shared}
def lG (e:Addr) (h:Heap):Prop:=∃o vs,h.get? e>o/\o.data=.fields vs/\vs[2]?>.none
theorem ZH {B:Heap} {F:Env} {V:!Env} {j e:Addr} {J:Obj} {vs:Array Value} {U a0:Value} {nx:Bool} {Q:Unit->Shared->Prop}
  (ad:A.frames>(F::V)) (O:s.heap.FunFrames B (F::V)) (ac:F.frame>j) (Z:s.heap.get? e>J) (aj:B.StaysIn s.heap) (ne:B.get? e=none) (dd:J.data=.fields vs) (sz:1 < vs.size) (al:vs[0]?>a0) (am:vs[2]?>.none)
  (q:∀h',Heap.NotedW B (F::V) e J.cls a0 (rawInt j) s.heap h'->lG e h'->Q ⟨⟩ {s with heap:=h'}):
  wpAny M A (do let a<-frameOf F;let pl<-entryPlaceOf j nx;let b<-EntryCells.newEntry U a .none (rawInt j) .none pl;setField (.ref e) 1 b) Q E s:=by
 let ai:e∉(F::V).filterMap (·.frame):=λm=>by
  let(_,o,go,nf):=O.mem m;rw[Z] at go;cases go;show nf vs dd
 show eA (wpAny_frameOf_fun ad O ac λk1 z1=>eA (wpAny_entryPlaceOf λpl ao=>?_));unfold EntryCells.newEntry newFields;show eA (wpAny_newObj_type ?_ (ao.sizeOk5 _ _ _ _ _));let a5:k1.get? e>J:=(z1.2.1 e ai).trans Z;let ab:B.StaysIn k1:=λb o D=>(z1.2.1 b λm=>by rw[(O.mem m).1] at D;cases D).trans (aj b o D);generalize ah:({cls:=.type "traceback",dict:=none,data:=.fields ([U,.ref j,.none,rawInt j,.none]++(if pl.isEmpty then List.replicate 6 Value.none else pl)).toArray}:Obj)=nT;let a8:nT.data=.fields ([U,.ref j,.none,rawInt j,.none]++(if pl.isEmpty then List.replicate 6 Value.none else pl)).toArray:=by rw[<-ah]
 let ag:nT.isFreed=false:=Obj.isFreed_of_fields a8;let a6:(k1.push nT).get? e>J:=uA nT a5;let ae:(k1.push nT).get? k1.objs.size>nT:=HA k1 ag;show wpAny_setField a6 dd sz ?_;let a4:k1.objs.size≠e:=Nat.ne_of_gt (EA a5);let W:=Obj.data_mapFields dd (·.setIfInBounds 1 (Value.ref k1.objs.size));let a7:=RB (Obj.mapFields (·.setIfInBounds 1 (Value.ref k1.objs.size))) a6 (Obj.isFreed_of_fields W);let af:=(HB (k1.push nT) (Obj.mapFields (·.setIfInBounds 1 (Value.ref k1.objs.size))) (Ne.symm a4)).trans ae;let a2:∀b o,b≠e->k1.get? b>o->((k1.push nT).update e (Obj.mapFields (·.setIfInBounds 1 (Value.ref k1.objs.size)))).get? b>o:=λb o n g=>by
  rw[HB _ _ (Ne.symm n)];show uA _ g
 let a9:∀b o,s.heap.get? b>o->(∀vs,o.data≠.fields vs)->b≠e:=λb o g nf a3=>by
  rw[a3,Z] at g;cases g;show nf vs dd
 let ak:([U,.ref j,.none,rawInt j,.none]++(if pl.isEmpty then List.replicate 6 Value.none else pl)).toArray[3]?>(rawInt j):=by simp
 show q _ (λb o D=>a2 b o (λa3=>by rw[a3,ne] at D;cases D) (ab b o D),O.of_keeps λb o g nf=>?_,(_,_,k1.objs.size,nT,_,a7,⟨Obj.cls_mapFields _ _,?_⟩,W,?_,ab.fresh,a4,af,a8,ak),λb o g nf=>?_) (_,_,a7,W,?_)
 .let(aa,a1):=z1.2.2 b o g;show(_,a2 b _ (a9 b o g nf) a1,rfl)
 .rw[Array.getElem?_setIfInBounds_ne (by decide)];show al
 .simp[sz]
 .let(aa,a1):=z1.2.2 b o g;show⟨aa,a2 b _ (a9 b o g nf) a1⟩
 .rw[Array.getElem?_setIfInBounds_ne (by decide)];show am
theorem aI {B:Heap} {l:!Env} {e:Addr} {cls a0 a5:Value} {Q:Unit->Shared->Prop} (a9:B.StaysIn s.heap) (a4:s.heap.FunFrames B l) (ab:s.heap.TracedAtW B e cls a0 a5) (a7:lG e s.heap) (ne:B.get? e=none)
  (q:∀h',Heap.FlyingW B l e cls a0 h'->s.heap.UpToSlots h'->lG e h'->Q ⟨⟩ {s with heap:=h'}):wpAny M A (setFlight (.ref e) none) Q E s:=by
 let(a8,vs,T,ad,ts,V,a6,dd,a2,W,F,J,D,aa):=ab;let a1:3 < ts.size:=(Array.getElem?_eq_some_iff.mp aa).1;unfold setFlight;show eA (wpAny_field V dd a2 ?_);rw[iA (show (Value.ref T != Value.none)=true by simp)];let j:∀b,b≠T->(s.heap.update T (Obj.mapFields (·.setIfInBounds 3 ((none:Option Addr).elim Value.none λf=>rawInt f)))).get? b=s.heap.get? b:=λb n=>HB _ _ (Ne.symm n);let Z:∀b o,s.heap.get? b>o->(∀vs,o.data≠.fields vs)->b≠T:=λb o g nf U=>by
  rw[U,J] at g;cases g;show nf ts D
 show wpAny_setField J D a1 (q _ (λb o O=>(j b λU=>by rw[U,W] at O;cases O).trans (a9 b o O),ne,a4.of_keeps λb o g nf=>(o,(j b (Z b o g nf)).trans g,rfl),?_) (λb o g nf=>⟨o.slots,(j b (Z b o g nf)).trans g⟩) ?_)
 .show(a8,vs,T,_,_,(j e (Ne.symm F)).trans V,a6,dd,a2,W,F,RB _ J (Obj.isFreed_of_fields (Obj.data_mapFields D _)),Obj.data_mapFields D _,by simp[a1])
 .let(o,ac,g,a3,v):=a7;show(o,ac,(j e (Ne.symm F)).trans g,a3,v)
theorem BK {B:Heap} {j:Env} {W:!Env} {F e:Addr} {cls a0:Value} {Q:Unit->Shared->Prop} (a8:A.frames>(j::W)) (a1:j.frame>F) (a7:Heap.FlyingW B (j::W) e cls a0 s.heap) (ab:lG e s.heap)
  (q:∀h',Heap.HeldW B (j::W) e cls a0 F h'->s.heap.UpToSlots h'->lG e h'->Q ⟨⟩ {s with heap:=h'}):wpAny M A (noteFrame (.ref e) j) Q E s:=by
 let(ad,ne,a6,am,vs,T,al,ts,U,(a9,ae),dd,a4,aa,a5,O,J,a3):=a7;let(ak,ao,g',d',af):=ab;rw[U] at g';cases g';rw[dd] at d';cases d';subst a9;unfold noteFrame;simp only[a1];show eA (wpAny_field U dd a4 ?_);rw[iA (show (Value.ref T != Value.none)=true by simp)];show eA (wpAny_field O J a3 ?_);rw[gA (show ¬((Value.none == rawInt F)=true) by simp[rawInt])];show eA (wpAny_setField O J (Array.getElem?_eq_some_iff.mp a3).1 ?_);let D:∀b,b≠T->(s.heap.update T (Obj.mapFields (·.setIfInBounds 3 Value.none))).get? b=s.heap.get? b:=λb n=>HB _ _ (Ne.symm n);let a2:∀b o,s.heap.get? b>o->(∀vs,o.data≠.fields vs)->b≠T:=λb o g nf Z=>by
  rw[Z,O] at g;cases g;show nf ts J
 show ZH a8 (a6.of_keeps λb o g nf=>(o,(D b (a2 b o g nf)).trans g,rfl)) a1 ((D e (Ne.symm a5)).trans U) (λb o V=>(D b λZ=>by rw[Z,aa] at V;cases V).trans (ad b o V)) ne dd (Array.getElem?_eq_some_iff.mp a4).1 ae af λh' ⟨ag,ah,ai,aj⟩ ac=>?_;show q h' (ag,ne,ah,ai) (λb o g nf=>aj b o ((D b (a2 b o g nf)).trans g) nf) ac
theorem SI {B:Heap} {j:Env} {D:!Env} {F e:Addr} {cls a0:Value} {Q:Unit->Shared->Prop} (a1:A.frames>(j::D)) (J:j.frame>F) (Z:Heap.FlyingW B (j::D) e cls a0 s.heap) (a7:lG e s.heap)
  (q:∀h',Heap.FlyingW B D e cls a0 h'->s.heap.UpToSlots h'->lG e h'->Q ⟨⟩ {s with heap:=h'}):wpAny M A (leaving j (.ref e)) Q E s:=by
 unfold leaving;show eA (BK a1 J Z a7 λk ⟨a2,a3,a4,a5⟩ up nk=>?_);show aI (s:={s with heap:=k}) a2 a4 a5 nk a3 λa6 ⟨O,U,⟨_,_,V⟩,W⟩ a9 a8=>?_;show q a6 (O,U,V,W) (up.trans a9) a8
theorem AG {B h:Heap} {D:Env} {F:!Env} {V e:Addr} {cls:Value} {args:!Value} {Q:Unit->Shared->Prop} (a4:A.frames>(D::F)) (J:D.frame>V) (U:B.StaysIn h) (a3:h.FunFrames B (D::F)) (mk:Heap.MadeExcOf h s.heap e cls args)
  (q:∀h' t,Heap.FlyingW B F e cls (.ref t) h'->s.heap.UpToSlots h'->lG e h'->Q ⟨⟩ {s with heap:=h'}):wpAny M A (leaving D (.ref e)) Q E s:=by
 let(t,O,_,_):=mk.there;let new:∀b,h.get? b=none->B.get? b=none:=λb j=>by
  cases ac:B.get? b with
  |none=>rfl
  |some o=>have:=U b o ac;rw[j] at this;cases this
 unfold leaving noteFrame;simp only[J];show eA (eA (wpAny_field O rfl (x:=.none) rfl ?_));rw[gA (by decide)];show ZH a4 (a3.of_keeps λb o j ο=>(o,mk.keeps b o j,rfl)) J O (λb o j=>mk.keeps b o (U b o j)) (new e mk.new) rfl (by simp) (a0:=.ref t) rfl rfl λk ⟨a8,a9,aa,ab⟩ nk=>?_;show aI (s:={s with heap:=k}) a8 a9 aa nk (new e mk.new) λa5 ⟨W,Z,⟨_,_,a1⟩,a2⟩ a7 a6=>?_;show q a5 t (W,Z,a1,a2) (Heap.UpToSlots.trans (λb o g nf=>ab b o g nf) a7) a6
end
structure mP (B:Heap) (l:!Env) (h:Heap) (H H':Hp) (h':Heap) (ea:Addr) (cls:Value):Prop where
 fl:∃a0,Heap.FlyingW B l ea cls a0 h'
 trk:∀b u,H' b>u->∃o,B.get? b>o
 kept:∀b o,h.get? b>o->H b=none->b∉aE l->B.get? b>o
 alive:∀b o,h.get? b>o->b∉aE l->∃o',B.get? b>o'
 nc:lG ea h'
def BG (P:Program) (w:World):CXT:=λouter H s E e s'=>∃ea cls H' B,e=.ref ea/\s'.os=s.os/\AllBare s'.gens/\Un (aE outer) [] H H' s.heap s'.heap/\qE P w H' s'.heap/\mP B outer s.heap H H' s'.heap ea cls/\E cls none H'
abbrev XKs:=Value->St->Hp->Prop
def XW (X:Cx) (K:XKs):Prop:=∀(pins:!(Addr×Obj)) (σ:St) (H:Hp) (s s':Shared) (ea:Addr) (cls:Value) (H':Hp) (B:Heap),vC X pins σ H s->s'.os=s.os->AllBare s'.gens->
 Un (aE X.stack) [] H H' s.heap s'.heap->qE X.prog X.w H' s'.heap->mP B X.stack s.heap H H' s'.heap ea cls->K cls σ H'->X.xe (.ref ea) s'
theorem wW {q:Env} {l:!Env} {j:Addr} (h:q.frame>j):aE (q::l)=j::aE l:=by
 unfold aE;rw[List.filterMap_cons,h]
theorem qE.flown {P:Program} {w:World} {H:Hp} {B h h':Heap} (x:qE P w H h) (t:∀b u,H b>u->∃o,B.get? b>o) (s:B.StaysIn h) (s':B.StaysIn h'):qE P w H h':=λa o e=>
 (x a o e).stay (λb u j q=>by
  let J:∃o,B.get? b>o:=by
   let rfl||j:=j
   .show t _ _ e
   .show t _ _ j
  let(O,F):=J;let D:=s b O F;rw[q] at D;cases D;show s' b _ F) (λο q=>q) λο ο q=>q
theorem WC {P:Program} {w:World} {K:PySem.W.Frag} {mg:Str->Option Value} {base:Heap} {N:!Str} {O:Str} {U:Scope} {f:Addr} {J:Value} {A:Around} {F:!Env} {D:Shared} {a3:Hp} {E:XK}:
  XW (fE (BG P w) P w K mg base N O U f J A F D a3 E) (λc ο a5=>E c none a5):=by
 intro aq ar H s s' ab cls a5 B a1 ao aa un ag Z aj;let V:=a1.call' (s':=s') (ch:=[]) ao un ag aa (λb j=>absurd j (by simp));let ad:=a1.ok.frames;let al:(fE (BG P w) P w K mg base N O U f J A F D a3 E).stack=envOfC O U D.heap.objs.size f J::F:=rfl;rw[al] at ad;let(a0,a7):=Z.fl;let ac:(envOfC O U D.heap.objs.size f J).frame>D.heap.objs.size:=rfl;change wpAny _ _ (leaving (envOfC O U D.heap.objs.size f J) (.ref ab)) _ _ s';show SI ad ac a7 Z.nc λh' a4 up am=>?_;let ae:aE (envOfC O U D.heap.objs.size f J::F)=D.heap.objs.size::aE F:=wW ac;let nf:∀b o,D.heap.get? b>o->b∉aE F->b∉aE (envOfC O U D.heap.objs.size f J::F):=λb o e n j=>by
  rw[ae] at j;let j||j:=xA.mp j
  .show absurd (EA e) (by rw[j];show kC _)
  .show n j
 let stay:∀b o,D.heap.get? b>o->a3 b=none->b∉aE F->B.get? b>o:=λb o e n q=>
  Z.kept b o (a1.base.keep b o e n q (by intro j;show absurd j (by simp[fE]))) (a1.base.free b o e n (by intro j;show absurd j (by simp[fE]))) (nf b o e q)
 let fD:∀b o,D.heap.get? b>o->b∉aE F->∃ah,B.get? b>ah:=λb o e q=>by
  let(a2,W):=a1.base.there b o e (by intro j;show absurd j (by simp[fE]));show Z.alive b a2 W (nf b o e q)
 show(ab,cls,a5,B,rfl,V.os,aa,?_,ag.flown Z.trk a7.1 a4.1,(⟨a0,a4⟩,Z.trk,stay,fD,am),aj);let a8:∀b:Addr,b∉(fE (BG P w) P w K mg base N O U f J A F D a3 E).ex:=λb j=>absurd j (by simp[fE]);let ai:∀b,b∈aE F->∀o,s'.heap.get? b>o->∃a9,h'.get? b>{o with slots:=a9}:=λb q o e=>by
  let ak:b∈aE (envOfC O U D.heap.objs.size f J::F):=by rw[ae];show kA _ q
  let(_,ah,af,hd):=a7.2.2.1.mem ak;rw[e] at af;cases af;show up b o e hd
 show(λb o e n q ο=>a4.1 b o (stay b o e n q),λb o e n q ο=>?_,λb o e n ο=>V.base.free b o e n (a8 b),λb o e ο=>?_,V.base.tups,V.base.frzs,V.base.tbls)
 .let(a9,W):=V.base.slot b o e n q (a8 b);let(ap,a6):=ai b q _ W;show⟨ap,a6⟩
 .by_cases q:b∈aE F
  .let(a2,W):=V.base.there b o e (a8 b);let(a9,a6):=ai b q _ W;show⟨_,a6⟩
  .let(a2,W):=fD b o e q;show⟨a2,a4.1 b a2 W⟩
def oE (P:Program) (w:World) (K:PySem.W.Frag) (mg:Str->Option Value) (base:Heap) (x:Str) (k:Nat) (ps:!Str) (dvs:!V) (sp:Sp):Prop:=
 ∃f fd ds,mg x=↑f/\PySem.W.keepIn K (.ref f)=true/\kE K fd ps ds/\zC dvs ds/\QE P w K mg base (BG P w) k f fd ps sp
def SC (P:Program) (w:World) (K:PySem.W.Frag) (mg:Str->Option Value) (base:Heap) (C:Addr) (m:Str) (k:Nat) (ps:!Str) (dvs:!V) (sp:Sp):Prop:=
 ∃f fd ds,XG K C m f/\kE K fd ps ds/\zC dvs ds/\QE P w K mg base (BG P w) k f fd ps sp
def YF (P:Program) (w:World) (K:PySem.W.Frag) (mg:Str->Option Value) (base:Heap) (x:Str) (C:Addr) (k:Nat) (ps:!Str) (dvs:!V) (sp:Sp):Prop:=
 ∃f fd ds,mg x=↑C/\Mk K C f/\kE K fd ps ds/\zC dvs ds/\QE P w K mg base (BG P w) k f fd ps sp
def bI (Kx:XKs) (sp:Sp) (dvs:!V) (t:TA):TE:=λσ H Q=>t σ H λvs H1=>sp (vs++dvs) H1 Q (λc ο H'=>Kx c σ H')
def cH (Kx:XKs) (C:Addr) (m:Str) (sp:Sp) (dvs:!V) (ta:TE) (t:TA):TE:=λσ H Q=>ta σ H λx H1=>∃a dx fs,x=.ref a/\H1 a>(.ins C dx fs)/\fs.lookup m=none/\
 t σ H1 λvs H2=>sp (x::(vs++dvs)) H2 Q (λc ο H'=>Kx c σ H')
def cI (Kx:XKs) (C:Addr) (sp:Sp) (dvs:!V) (t:TA):TE:=λσ H Q=>t σ H λvs H1=>∀x dx,H1 x=none->H1 dx=none->dx≠x->
 sp (.ref x::(vs++dvs)) (upd (upd H1 dx (.own x)) x (.ins C dx [])) (λv H2=>v=.non/\Q (.ref x) H2) (λc ο H'=>Kx c σ H')
section
variable {X:Cx} {Kx:XKs} {k:Nat} {f C:Addr} {fd:FuncData} {ps:!Str} {sp:Sp} {dvs:!V} {ds:!Value} {x m:Str} {p pos apos:Pos} {e o:Expr} {es:!Expr} {ta:TE} {t:TA}
theorem NQ {O:!(Addr×Obj)} {D:St} {H:Hp} {s:Shared} {Q:VK} {us:!Value} {vs:!V} (F:QE X.prog X.w X.K X.mg X.base (BG X.prog X.w) k f fd ps sp) (a6:FD k X.A) (a3:kE X.K fd ps ds) (hd:zC dvs ds) (a7:XW X Kx)
  (q:vC X O D H s) (r:zC vs us) (h:sp (vs++dvs) H Q (λc ο J=>Kx c D J)):wpAny (model X.prog X.w) X.A (call (.ref f) us) (EP X O D Q) X.xe s:=by
 let U:zC (vs++dvs) (us++ds):=r.append hd;let a4:(us++ds).length=ps.length:=by rw[<-U.length];show F.len _ _ _ _ h
 show wpAny_call (codeAny_mono (F.run X.A X.stack s H ⟨us,[]⟩ (us++ds) (vs++dvs) Q _ a6 q.env0 (a3 s us q.kIn a4) U h) λr s' j=>?_);cases r with
 |error e=>
  let(Z,cls,J,B,rfl,a8,W,un,a5,a1,a2):=j;show a7 O D H s s' Z cls J B q a8 W un a5 a1 a2
 |ok a0=>
  cases a0 with
  |ret u=>show q.after j
  |next=>show False.elim j
  |brk=>show False.elim j
  |cont=>show False.elim j
theorem XD (F:oE X.prog X.w X.K X.mg X.base x k ps dvs sp) (a2:FD k X.A) (a3:XW X Kx) (J:PA X (e::es) t) (W:Gl X x:=by rfl) (U:(x == ("__debug__":Str))=false:=by decide)
  (V:starEach (e::es) X.env=(false,eval e X.env)::starEach es X.env:=by rfl) (a1:(backTo pos (starEach es X.env)).any (·.1)=false:=by rfl):
  PE X (.Call (.Name x p) (e::es) [] pos) (bI Kx sp dvs t):=by
 let(f,a7,ds,a0,Z,O,hd,F):=F;intro a4 s a5 H Q j h;show wpAny_Call_Name_kw (cP j W a0 ?_ U);show PySem.W.callWith_K (h₀:=X.base) j.ok.mod.kin Z (cD (J pos a4 s a5 H _ j h) λus s1 ⟨vs,a6,D,r,q⟩=>⟨D.kIn,?_⟩) V a1;show NQ F a2 O hd a3 D r q
theorem pF {pl:Sem Bool} (a2:PE X o ta) (c:OG X.K C) (F:SC X.prog X.w X.K X.mg X.base C m k ps dvs sp) (a4:FD k X.A) (a7:XW X Kx) (a0:PA X (e::es) t)
  (a5:starEach (e::es) X.env=(false,eval e X.env)::starEach es X.env:=by rfl) (a3:(backTo pos (starEach es X.env)).any (·.1)=false:=by rfl)
  (a6:eval (.Call (.Attribute o m apos) (e::es) [] pos) X.env=(do
   let ov<-eval o X.env
   standAt apos.atName
   let (f,first)<-holding [ov] (getMethod ov m pl)
   callWith pos f first (backTo pos (starEach (e::es) X.env)) (backToKw pos (keywordEach [] X.env))):=by rfl):
  PE X (.Call (.Attribute o m apos) (e::es) [] pos) (cH Kx C m sp dvs ta t):=by
 let(f,ad,ds,O,a1,hd,F):=F;intro U s V H Q j h;show PySem.W.methodCall_KW (pl:=pl) (cD (a2 U s V H _ j h) λu s1 aa=>?_) a6;let(x,W,D,a9,a,ac,fs,ex,Z,l,q):=aa;subst ex;obtain rfl:u=Value.ref a:=a9;show UV D Z c O l ?_;show PySem.W.callWith_K (first:=[.ref a]) (h₀:=X.base) j.ok.mod.kin O.kp (cD (a0 pos U s1 V W _ D q) λus ae ⟨vs,ab,J,r,a8⟩=>⟨J.kIn,?_⟩) a5 a3;show NQ (us:=.ref a::us) (vs:=.ref a::vs) F a4 a1 hd a7 J (.cons rfl r) a8
theorem rG {pl:Sem Bool} (V:PE X o ta) (c:OG X.K C) (F:SC X.prog X.w X.K X.mg X.base C m k ps dvs sp) (W:FD k X.A) (a0:XW X Kx)
  (Z:eval (.Call (.Attribute o m apos) [] [] pos) X.env=(do
   let ov<-eval o X.env
   standAt apos.atName
   let (f,first)<-holding [ov] (getMethod ov m pl)
   callWith pos f first (backTo pos (starEach [] X.env)) (backToKw pos (keywordEach [] X.env))):=by rfl):
  PE X (.Call (.Attribute o m apos) [] [] pos) (cH Kx C m sp dvs ta tNil):=by
 let(f,a7,ds,D,U,hd,F):=F;intro a1 s a4 H Q J h;show PySem.W.methodCall_KW (pl:=pl) (cD (V a1 s a4 H _ J h) λu s1 a3=>?_) Z;let(x,a5,j,a2,a,a6,fs,ex,O,l,q):=a3;subst ex;obtain rfl:u=Value.ref a:=a2;show UV j O c D l ?_;show PySem.W.callWith_K0 (first:=[.ref a]) j.kIn D.kp (NQ (us:=[.ref a]) (vs:=[.ref a]) F W U hd a0 j (.cons rfl .nil) q)
theorem ZZ {W:!(Addr×Obj)} {U:St} {H:Hp} {s:Shared} {Q:VK} {us:!Value} {vs:!V} (M:Mk X.K C f) (F:QE X.prog X.w X.K X.mg X.base (BG X.prog X.w) k f fd ps sp) (ac:FD (k+1) X.A) (a9:kE X.K fd ps ds) (hd:zC dvs ds)
  (ad:XW X Kx) (D:vC X W U H s) (r:zC vs us)
  (h:∀x O,H x=none->H O=none->O≠x->sp (.ref x::(vs++dvs)) (upd (upd H O (.own x)) x (.ins C O [])) (λv a1=>v=.non/\Q (.ref x) a1) (λc ο j=>Kx c U j)):
  wpAny (model X.prog X.w) X.A (call (.ref C) us) (EP X W U Q) X.xe s:=by
 let Z:=h (s.heap.objs.size+1) s.heap.objs.size (D.hok.fresh (Nat.le_succ _)) (D.hok.fresh (pA _)) (SA (Nat.lt_succ_self _));let J:=vC.made (C:=C) D;let a0:zC (V.ref (s.heap.objs.size+1)::(vs++dvs)) (Value.ref (s.heap.objs.size+1)::(us++ds)):=.cons rfl (r.append hd);let aa:(Value.ref (s.heap.objs.size+1)::us++ds).length=ps.length:=by
  let e:=a0.length;rw[F.len _ _ _ _ Z] at e;show e.symm
 show wpAny_call (wZ (f:=f) D.kIn M.makes M.init (ZB.mp M.fn) (codeAny_mono (F.run _ X.stack _ _ ⟨Value.ref (s.heap.objs.size+1)::us,[]⟩ (Value.ref (s.heap.objs.size+1)::(us++ds)) _ _ _ (ac.make C us [])
  (J.env0.make C us []) (a9 _ (Value.ref (s.heap.objs.size+1)::us) J.kIn aa) a0 Z) λr s' q=>?_))
 cases r with
 |error e=>
  let(a4,cls,j,B,rfl,ae,a3,un,ab,a7,a8):=q;show ad W U _ _ s' a4 cls j B J ae a3 un ab a7 a8
 |ok a6=>
  cases a6 with
  |ret u=>
   let(v,j,a2,ag,a5,af):=J.after q;subst a5;show⟨ag,(V.ref (s.heap.objs.size+1),j,a2,rfl,af)⟩
  |next=>show False.elim q
  |brk=>show False.elim q
  |cont=>show False.elim q
theorem nP (F:YF X.prog X.w X.K X.mg X.base x C k ps dvs sp) (a1:FD (k+1) X.A) (a2:XW X Kx) (J:PA X (e::es) t) (W:Gl X x:=by rfl) (U:(x == ("__debug__":Str))=false:=by decide)
  (V:starEach (e::es) X.env=(false,eval e X.env)::starEach es X.env:=by rfl) (a0:(backTo pos (starEach es X.env)).any (·.1)=false:=by rfl):
  PE X (.Call (.Name x p) (e::es) [] pos) (cI Kx C sp dvs t):=by
 let(f,a6,ds,Z,M,O,hd,F):=F;intro a3 s a4 H Q j h;show wpAny_Call_Name_kw (cP j W Z ?_ U);show PySem.W.callWith_K (h₀:=X.base) j.ok.mod.kin M.kp (cD (J pos a3 s a4 H _ j h) λus s1 ⟨vs,a5,D,r,q⟩=>⟨D.kIn,?_⟩) V a0;show ZZ M F a1 O hd a2 D r q
theorem dI {n:String} (j:Gl X x) (q:X.mg x=none) (F:bootBuiltins x>(.type n)) (D:x≠"__name__":=by decide) (hd:(x == ("__debug__":Str))=false:=by decide):PE X (.Name x pos) (tC (.ty n)):=hZ j q F rfl D hd
end
def ZF (K:PySem.W.Frag) (mg:Str->Option Value) (x qual:Str) (st:Stmt) (ps:!Str) (dvs:!V):Prop:=∃f fd ds,mg x=↑f/\bH K x qual st f fd/\kE K fd ps ds/\zC dvs ds
def DD (K:PySem.W.Frag) (C:Addr) (m qual:Str) (st:Stmt) (ps:!Str) (dvs:!V):Prop:=∃f fd ds,XG K C m f/\bH K m qual st f fd/\kE K fd ps ds/\zC dvs ds
def DH (K:PySem.W.Frag) (mg:Str->Option Value) (x:Str) (C:Addr) (qual:Str) (st:Stmt) (ps:!Str) (dvs:!V):Prop:=∃f fd ds,mg x=↑C/\Mk K C f/\bH K "__init__" qual st f fd/\kE K fd ps ds/\zC dvs ds
section
variable {P:Program} {w:World} {K:PySem.W.Frag} {mg:Str->Option Value} {base:Heap}
def mG (P:Program) (w:World) (K:PySem.W.Frag) (mg:Str->Option Value) (base:Heap) (qual:Str) (st:Stmt) (N:!Str) (k:Nat) (sp:Sp):Prop:=
 ∀(f:Addr) (cdv:Value) (A:Around) (outer:!Env) (s:Shared) (H:Hp) (vs:!V) (Q:VK) (E:XK),FD k (A.deeper (envOfC qual (mC st) s.heap.objs.size f cdv))->sp vs H Q E->
  ∃t,SF (fE (BG P w) P w K mg base N qual (mC st) f cdv A outer s H E) (eD st) t/\t {nx:=λο H'=>Q .non H',rt:=Q} (HE N vs) H
theorem bH.okE {x J:Str} {q:Stmt} {f:Addr} {D:FuncData} {N j:!Str} {k:Nat} {sp:Sp} (F:bH K x J q f D) (S:qC N j (mC q)) (len:∀vs H Q E,sp vs H Q E->vs.length=j.length)
  (U:mG P w K mg base J q N k sp):QE P w K mg base (BG P w) (k+1) f D j sp:=by
 let(a3,a4,kV,a2,pm,an,O,a1,a5,rfl,lk,V):=F.ex;show BQ lk V S len λA a0 s H vs Q E W Z=>U f O A a0 s H vs Q E W Z
theorem ZF.have {x J:Str} {q:Stmt} {N j:!Str} {D:!V} {k:Nat} {sp:Sp} (R:ZF K mg x J q j D) (S:qC N j (mC q)) (len:∀vs H Q E,sp vs H Q E->vs.length=j.length)
  (O:mG P w K mg base J q N k sp):oE P w K mg base x (k+1) j D sp:=
 let ⟨f,fd,ds,hm,F,hb,hd⟩:=R
 (f,fd,ds,hm,F.kp,hb,hd,F.okE S len O)
theorem DD.have {C:Addr} {m J:Str} {q:Stmt} {N j:!Str} {D:!V} {k:Nat} {sp:Sp} (R:DD K C m J q j D) (S:qC N j (mC q)) (len:∀vs H Q E,sp vs H Q E->vs.length=j.length)
  (O:mG P w K mg base J q N k sp):SC P w K mg base C m (k+1) j D sp:=
 let ⟨f,fd,ds,hm,F,hb,hd⟩:=R
 (f,fd,ds,hm,hb,hd,F.okE S len O)
theorem DH.have {C:Addr} {x J:Str} {q:Stmt} {N j:!Str} {D:!V} {k:Nat} {sp:Sp} (R:DH K mg x C J q j D) (S:qC N j (mC q)) (len:∀vs H Q E,sp vs H Q E->vs.length=j.length)
  (O:mG P w K mg base J q N k sp):YF P w K mg base x C (k+1) j D sp:=
 let ⟨f,fd,ds,hm,M,F,hb,hd⟩:=R
 (f,fd,ds,hm,M,hb,hd,F.okE S len O)
end
def XR (X:Cx) (K:XKs):Prop:=∀(pins:!(Addr×Obj)) (σ:St) (H:Hp) (s:Shared) (h':Heap) (e:Addr) (cls:Value) (args:!Value),vC X pins σ H s->Heap.MadeExcOf s.heap h' e cls args->K cls σ H->X.xe (.ref e) {s with heap:=h'}
theorem qE.alive {P:Program} {w:World} {H:Hp} {h:Heap} (x:qE P w H h) {b:Addr} {u:HO} (e:H b>u):∃o,h.get? b>o:=by
 let q:=x b u e;cases u with
 |lst xs=>let(_,_,_,_,e):=q;show⟨_,e⟩
 |tup xs=>let(_,_,_,(o,e,_)):=q;show⟨_,e⟩
 |dK j=>let(_,_,_,_,o,_,_,e,_):=q;show⟨_,e⟩
 |dT j=>let(_,_,_,_,o,_,_,e,_):=q;show⟨_,e⟩
 |set S n=>let(o,_,_,_,e,_):=q;show⟨_,e⟩
 |ins C D fs=>let(_,_,_,e,_):=q;show⟨_,e⟩
 |own y=>show q
 |xd fs=>let(_,(_,_,_,e,_),_):=q;show⟨_,e⟩
 |rng lo F=>let(_,_,_,e):=q;show⟨_,e⟩
 |frz ob u=>let(e,_):=q;show⟨_,e⟩
 |tbl J=>show⟨_,q⟩
 |met f y=>show⟨_,q⟩
 |ext O=>let(_,e,_):=q;show e
theorem CK {P:Program} {w:World} {K:PySem.W.Frag} {mg:Str->Option Value} {base:Heap} {N:!Str} {U:Str} {V:Scope} {f:Addr} {O:Value} {A:Around} {D:!Env} {j:Shared} {a2:Hp} {E:XK}:
  XR (fE (BG P w) P w K mg base N U V f O A D j a2 E) (λc ο ag=>E c none ag):=by
 intro ar au H s aq a8 cls args J mk ai;let aa:=J.ok.frames;let am:(fE (BG P w) P w K mg base N U V f O A D j a2 E).stack=envOfC U V j.heap.objs.size f O::D:=rfl;let a5:=J.stack;let ab:=J.stkFree;rw[am] at aa a5 ab;let a9:(envOfC U V j.heap.objs.size f O).frame>j.heap.objs.size:=rfl;let ac:aE (envOfC U V j.heap.objs.size f O::D)=j.heap.objs.size::aE D:=wW a9;let a1:∀b:Addr,b∉(fE (BG P w) P w K mg base N U V f O A D j a2 E).ex:=λb W=>absurd W (by simp[fE]);let nf:∀b o,j.heap.get? b>o->b∉aE D->b∉aE (envOfC U V j.heap.objs.size f O::D):=λb o e n W=>by
  rw[ac] at W;let W||W:=xA.mp W
  .show absurd (EA e) (by rw[W];show kC _)
  .show n W
 change wpAny _ _ (leaving (envOfC U V j.heap.objs.size f O) (.ref a8)) _ _ _;show AG (B:=PySem.W.hideAll s.heap (aE (envOfC U V j.heap.objs.size f O::D))) (h:=s.heap) aa a9 (λb o q=>PySem.W.of_hideAll _ q)
  (PySem.W.funFrames_hide a5 λah aj b F=>List.mem_filterMap.mpr (ah,aj,F)) mk λh' t a3 up ao=>?_
 let a6:∀b o,s.heap.get? b>o->b∉aE (envOfC U V j.heap.objs.size f O::D)->(PySem.W.hideAll s.heap (aE (envOfC U V j.heap.objs.size f O::D))).get? b>o:=λb o e n=>PySem.W.hideAll_get _ e n;let stay:∀b o,j.heap.get? b>o->a2 b=none->b∉aE D->(PySem.W.hideAll s.heap (aE (envOfC U V j.heap.objs.size f O::D))).get? b>o:=λb o e n F=>
  a6 b o (J.base.keep b o e n F (a1 b)) (nf b o e F)
 let fD:∀b o,j.heap.get? b>o->b∉aE D->∃ae,(PySem.W.hideAll s.heap (aE (envOfC U V j.heap.objs.size f O::D))).get? b>ae:=λb o e F=>by
  let(a0,Z):=J.base.there b o e (a1 b);show⟨a0,a6 b a0 Z (nf b o e F)⟩
 let trk:∀b u,H b>u->∃o,(PySem.W.hideAll s.heap (aE (envOfC U V j.heap.objs.size f O::D))).get? b>o:=λb u e=>by
  let(o,al):=J.hok.alive e;show⟨o,a6 b o al λW=>by rw[ab b W] at e;cases e⟩
 let af:∀b,b∈aE D->∀o,s.heap.get? b>o->∃a7,h'.get? b>{o with slots:=a7}:=λb F o e=>by
  let ak:b∈aE (envOfC U V j.heap.objs.size f O::D):=by rw[ac];show kA _ F
  let(_,ae,ad,hd):=a5.mem ak;rw[e] at ad;cases ad;show up b o (mk.keeps b o e) hd
 show(a8,cls,H,_,rfl,J.os,J.bare,?_,J.hok.flown trk (λb o q=>PySem.W.of_hideAll _ q) a3.1,(⟨_,a3⟩,trk,stay,fD,ao),ai);show(λb o e n F ο=>a3.1 b o (stay b o e n F),λb o e n F ο=>?_,λb o e n ο=>J.base.free b o e n (a1 b),λb o e ο=>?_,J.base.tups,J.base.frzs,J.base.tbls)
 .let(a7,Z):=J.base.slot b o e n F (a1 b);let(ap,a4):=af b F _ Z;show⟨ap,a4⟩
 .by_cases F:b∈aE D
  .let(a0,Z):=J.base.there b o e (a1 b);let(a7,a4):=af b F _ Z;show⟨_,a4⟩
  .let(a0,Z):=fD b o e F;show⟨a0,a3.1 b a0 Z⟩
nonrec abbrev AJ:!Value:=[.type "ValueError",.type "Exception",.type "BaseException",.type "object"]
structure XC (K:PySem.W.Frag) (mg:Str->Option Value) (x:Str) (C:Addr):Prop where
 m:mg x=↑C
 ex:PySem.W.excIn K C AJ "ValueError.__new__"=true
set_option tactic.hygienic true in
theorem d0 {K:PySem.W.Frag} {h:Heap} {C:Addr} {l:!Value} {id:String} (hin:K.In h) (q:PySem.W.excIn K C l id=true):
  ∃bm N nm qn bs hdct sn sub ab col dd k0 k1 k2 k3 k5 mN,h.get? C>(excClassObj nm qn C N bs bm hdct sn sub ab col dd k0 k1 k2 k3 k5 id)/\h.Ns N mN/\mN "__init__"=none/\OwnTail h l bm:=by
 unfold PySem.W.excIn at q
 split at q
 case h_2=>cases q
 case h_1 dd cd sl ho=>
  split at q
  case h_2=>cases q
  case h_1 C' bm k0 k1 k2 k3 n k5 hm hs=>
   rw[cB,cB,cB,cB,cB] at q;let(((((q1,q2),q3),q4),q5),q6):=q;let e1:=ZB.mp q1;let e2:=ZB.mp q2;let e6:=ZB.mp q6;subst e1 e2;let(nm,bs,mro,ns,qn,hd,sn,sub,ab,col,del):=cd;let e3:del=false:=by
    cases del with
    |false=>rfl
    |true=>cases q3
   let hm':mro=.ref C'::bm:=hm;subst e3 hm';obtain⟨l'⟩:=sl;let hs':l'=[k0,k1,k2,k3,some (.builtin n),k5]:=hs;subst hs';show(bm,ns,nm,qn,bs,hd,sn,sub,ab,col,dd,k0,k1,k2,k3,k5,_,hin _ _ ho,.of_isNs (PySem.W.isNs_of_in hin q5),PySem.W.nsMap_none_of_in hin q5 e6,PySem.W.tail_of_in hin q4)
def eI (Kx:XKs) (C:Addr) (t:TA):TS:=λο σ H=>t σ H λvs H1=>vs.length<=sizeLine/\Kx (.ref C) σ H1
theorem i0 {X:Cx} {J:XKs} {C:Addr} {x:Str} {ac F ad:Pos} {e:Expr} {es:!Expr} {t:TA} (aa:XR X J) (a3:X.calm=true) (c:XC X.K X.mg x C) (a2:PA X (e::es) t) (a4:Gl X x:=by rfl) (hd:(x == ("__debug__":Str))=false:=by decide)
  (O:starEach (e::es) X.env=(false,eval e X.env)::starEach es X.env:=by rfl) (a8:(backTo F (starEach es X.env)).any (·.1)=false:=by rfl):
  PS X (.Raise (some (.Call (.Name x ac) (e::es) [] F)) none ad) (eI J C t):=by
 intro U s V H ag j h;let(bm,N,nm,ae,bs,hdct,sn,sub,ab,col,dd,k0,k1,k2,k3,k5,mN,a0,a1,a7,T):=d0 j.mod.kin c.ex;show wpAny_Raise_call_subT (C:=C) (nm:=nm) (q:=ae) (N:=N) (bs:=bs) (bm:=bm) (hdct:=hdct) (sn:=sn) (sub:=sub) (ab:=ab) (col:=col) (dd:=dd) (k0:=k0) (k1:=k1) (k2:=k2) (k3:=k3) (k5:=k5) (mN:=mN) PySem.F.excBase_ValueError (T.hasType PySem.F.excBase_ValueError.hasBase) (j.ok.hd a3) (by rw[O];change (false || (backTo F (starEach es X.env)).any (·.1))=false;rw[a8];rfl) a7
  (cP j a4 c.m ⟨rfl,?_⟩ hd)
 let q:=a2 F U s V H _ j h;rw[O] at q ⊢;show Calls.evalArgs_plain (FB q (λus af a9=>?_) λο ο y=>y);let(vs,W,D,r,a6,a5):=a9;show(rfl,by rw[<-r.length];show a6,D.bk _ _ a0,a1.keeps D.bk,T.keeps D.bk,λh' Z mk=>aa U V W af h' Z (.ref C) us D mk a5)
theorem vC.flown {X:Cx} {a4:!(Addr×Obj)} {a5:St} {H a3:Hp} {s s':Shared} {B Z:Heap} {ag:Addr} {cls:Value} (V:vC X a4 a5 H s) (j:vC X a4 a5 a3 s') (W:mP B X.stack s.heap H a3 s'.heap ag cls)
  (a2:B.StaysIn Z) (up:s'.heap.UpToSlots Z):vC X a4 a5 a3 {s' with heap:=Z}:=by
 let(a0,aj):=W.fl;let nf:∀b,b∉X.fs->b≠X.env.locals->b∉aE X.stack:=λb ah ai F=>by
  let q||q:=xA.mp (V.stkSub b F)
  .show ai q
  .show ah q
 let a9:∀b o,X.s₀.heap.get? b>o->b≠X.env.locals:=λb o e=>SA (OA (EA e) V.ok.above);let a6:∀{c:Addr} {v:Option Value},s'.heap.IsCell c v->Z.IsCell c v:=λ{c v} ⟨o,am,hd⟩=>by
  let(a1,e):=up c o am λvs F=>by rw[hd] at F;cases F
  show(_,e,hd)
 let ad:∀b,b∈X.fs->∀o,s'.heap.get? b>o->∃a1,Z.get? b>{o with slots:=a1}:=λb D o e=>by
  let(_,aq,a7,hd):=j.funs.mem D;rw[e] at a7;cases a7;show up b o e hd
 show(j.ok,j.os,j.bare,(λb o e n D U=>?_,λb o e n D U=>?_,j.base.free,λb o e U=>?_,j.base.tups,j.base.frzs,j.base.tbls),?_,λx c e=>?_,j.free,j.freeC,λp a8=>?_,j.hok.flown W.trk aj.1 a2,j.len)
 .show a2 b o (W.kept b o (V.base.keep b o e n D U) (V.base.free b o e n U) (nf b D (a9 b o e)))
 .let(a1,J):=j.base.slot b o e n D U;let(ap,O):=ad b D _ J;show⟨ap,O⟩
 .by_cases D:b∈X.fs
  .let(ab,J):=j.base.there b o e U;let(a1,O):=ad b D _ J;show⟨_,O⟩
  .let(ab,J):=V.base.there b o e U;let(ac,O):=W.alive b ab J (nf b D (a9 b o e));show⟨ac,a2 b ac O⟩
 .let(m,al,ak):=j.loc;show(m,up.ns al,λi x v J O af=>?_);let(u,r,l):=ak i x v J O af;show(u,r,?_);let l||(k,c,e,F):=l
  .show .inl l
  .show .inr (k,c,e,a6 F)
 .let(v,F):=j.cell x c e;show⟨v,a6 F⟩
 .let(e,n,ne,aa,ae):=V.pin p a8;let(_,ao,_,_,_):=j.pin p a8;show(a2 _ _ (W.kept p.1 p.2 e n (nf p.1 aa ne)),ao,ne,aa,ae)
structure XH (K:PySem.W.Frag) (mg:Str->Option Value) (x:Str) (D:Addr):Prop where
 m:mg x=↑D
 ty:PySem.W.typeIn K (.ref D)>(.type "type")
 cl:∃cd,PySem.W.clsIn K D>cd
 be:PySem.W.mroIn K D (.type "BaseException")>true
def UI (K:PySem.W.Frag) (C D:Addr):Prop:=PySem.W.mroIn K C (.ref D)>true
set_option tactic.hygienic true in
theorem o0 {K:PySem.W.Frag} {M:Model} {A:Around} {E:Value->Shared->Prop} {Q:Bool->Shared->Prop} {s:Shared} {mg:Str->Option Value} {x:Str} {ea C D:Addr} {o:Obj} (hin:K.In s.heap) (c:XH K mg x D) (sub:UI K C D)
  (ho:s.heap.get? ea>o) (hcl:o.cls=.ref C) (q:Q true s):wpAny M A (excMatches (.ref ea) (.ref D)) Q E s:=by
 let(cd,hcd):=c.cl;let L1:=PySem.W.looks_typeIn (M:=M) hin c.ty;let L2':=PySem.W.looks_mroIn (M:=M) hin c.be;let L3:=PySem.W.looks_mroIn (M:=M) hin sub;let L4:PySem.W.Looks M s.heap (typeOf (.ref ea)) (.ref C):=hcl ▸ (PySem.W.Looks.ld ho).andThen .now;let L5:PySem.W.Looks M s.heap (isType (.ref D)) true:=by
  unfold PySem.W.clsIn at hcd
  split at hcd
  .rename_i ho';intro A' Q' E' s' k q';unfold isType loadHead;show eA (wpAny_loadPart (k _ _ (hin _ _ ho')) (vA q'))
  .cases hcd
 let L6:PySem.W.Looks M s.heap (isExcClass (.ref D)) true:=L5.andThen L2';let(h,g,d,t,os):=s;let f:=tc_notTuple;unfold excMatches isInstance;show eA (eA (L1.at ?_));rw[f];show vA ?_;simp only[aB,GB];show eA (vA ?_);rw[List.forIn_cons];show eA (eA (eA (L6.at ?_)));simp only[Bool.not_true,aB,GB];show vA ?_;dsimp only;rw[List.forIn_nil];show vA ?_;show eA (L4.at ?_);rw[List.forIn_cons];show eA (eA (eA (L3.at ?_)));simp only[if_true];show vA ?_;dsimp only;show vA ?_;show vA q
def DF:Option HO->String
 |some (.lst _)=>"list"
 |some (.frz _ (.lst _))=>"list"
 |some (.tup _)=>"tuple"
 |some (.dK _)=>"dict"
 |some (.dT _)=>"dict"
 |_=>""
def kd (H:Hp):V->String
 |.non=>"NoneType"
 |.bl _=>"bool"
 |.int _=>"int"
 |.str _=>"str"
 |.ref a=>DF (H a)
 |_=>""
def Kn (H:Hp) (x:V):Prop:=kd H x≠""
def dH (n:String) (H:Hp) (x:V):Bool:=kd H x == n || (kd H x == "bool"&&n == "int")
theorem yN {K:PySem.W.Frag} {H:Hp} {x:V} (h:Kn H x):YE K H x (.type (kd H x)):=by
 cases x with
 |non=>show .non
 |bl b=>show .bl b
 |int i=>show .int i
 |str s=>show .str s
 |ref a=>
  let h:DF (H a)≠"":=h;change YE K H (.ref a) (.type (DF (H a)));cases e:H a with
  |none=>rw[e] at h;show absurd rfl h
  |some o=>
   rw[e] at h;cases o with
   |lst xs=>show .lst e
   |tup xs=>show .tup e
   |dK k=>show .dK e
   |dT k=>show .dT e
   |frz ob u=>
    cases u with
    |lst xs=>show .frz e
    |_=>show absurd rfl h
   |_=>show absurd rfl h
 |_=>show absurd rfl h
theorem p0 (o:Option HO):DF o=""\/DF o="list"\/DF o="tuple"\/DF o="dict":=by
 unfold DF
 split<;>simp
theorem Kn.cases {H:Hp} {x:V} (h:Kn H x):kd H x="NoneType"\/kd H x="bool"\/kd H x="int"\/kd H x="str"\/kd H x="list"\/kd H x="tuple"\/kd H x="dict":=by
 cases x with
 |ref a=>
  let h:DF (H a)≠"":=h;change DF (H a)=_\/DF (H a)=_\/DF (H a)=_\/DF (H a)=_\/DF (H a)=_\/DF (H a)=_\/DF (H a)=_;let e||e||e||e:=p0 (H a)
  .show absurd e h
  .show .inr (.inr (.inr (.inr (.inl e))))
  .show .inr (.inr (.inr (.inr (.inr (.inl e)))))
  .show .inr (.inr (.inr (.inr (.inr (.inr e)))))
 |non=>show .inl rfl
 |bl b=>show .inr (.inl rfl)
 |int i=>show .inr (.inr (.inl rfl))
 |str z=>show .inr (.inr (.inr (.inl rfl)))
 |_=>show absurd rfl h
theorem u0 (K:PySem.W.Frag):∀k∈["NoneType","bool","int","str","list","tuple","dict"],∀n∈["bool","int","str","list","tuple","dict"],PySem.W.kitOne K (.type k) (.type n)>(k == n || (k == "bool"&&n == "int")):=by
 let e:∀k∈["NoneType","bool","int","str","list","tuple","dict"],∀n∈["bool","int","str","list","tuple","dict"],(if (Value.type k == Value.type n)=true then some true else if PySem.W.kitMeta n=true then (fastBuiltinMro k).map (·.contains (.type n)) else none)>(k == n || (k == "bool"&&n == "int")):=∅;show λk j n q=>e k j n q
theorem fI {X:Cx}:xE X (.builtin "isinstance") (λxs H Q=>∃x n,xs=[x,.ty n]/\n∈["bool","int","str","list","tuple","dict"]/\Kn H x/\Q (.bl (dH n H x)) H):=by
 intro W s Z H xs us Q D r h;let(x,n,rfl,J,F,q):=h;cases r with
 |cons O j=>
  cases j with
  |cons U j=>
   cases j;cases U;show BZ D O (yN F) (u0 X.K _ ?_ n J) λV=>(.bl _,H,D.tok V,rfl,q)
   let e||e||e||e||e||e||e:=F.cases<;>rw[e]<;>simp
theorem oP {X:Cx}:MV X (unaryOp .USub) (rU λi=>.int (Neg.neg i)):=by
 intro F s J H x v Q j D h;let(i,rfl,q):=h;let(t,rfl):=D;show neg_int (.int _,H,j.tok _,⟨_,rfl⟩,q)
theorem DK {H:Hp} {i:Int}:Kn H (.int i)↔True:=⟨λο=>trivial,λο=>(by decide:"int"≠"")⟩
theorem zN {H:Hp} {i:Bool}:Kn H (.bl i)↔True:=⟨λο=>trivial,λο=>(by decide:"bool"≠"")⟩
theorem EK {H:Hp} {i:Str}:Kn H (.str i)↔True:=⟨λο=>trivial,λο=>(by decide:"str"≠"")⟩
theorem kM {H:Hp} {a:Addr} {xs:!V} (h:H a>(.lst xs)):Kn H (.ref a):=λz=>by
 let z:DF (H a)="":=z;rw[h] at z;show absurd z (show "list"≠"" by decide)
theorem lM {H:Hp} {a:Addr} {xs:!V} (h:H a>(.tup xs)):Kn H (.ref a):=λz=>by
 let z:DF (H a)="":=z;rw[h] at z;show absurd z (show "tuple"≠"" by decide)
theorem FK {CX:CXT} {P:Program} {w:World} {K:PySem.W.Frag} {mg:Str->Option Value} {base:Heap} {N:!Str} {D:Str} {F:Scope} {f:Addr} {j:Value} {A:Around} {q:!Env} {s:Shared} {H:Hp} {E:XK}:
 (fE CX P w K mg base N D F f j A q s H E).K=K:=rfl
def CG:V->Bool
 |.int _=>true
 |_=>false
def within (x:V) (l h:Int):Bool:=match x with
 |.int i=>decide (l<=i)&&decide (i<=h)
 |_=>false
inductive xW (t u:TS):Type where
 |mk:xW t u
def OQ (t u:TS) (_:xW t u):TS:=λD σ H=>∃M:St->Hp->Prop,t {D with nx:=M} σ H/\∀σ' H',M σ' H'->u D σ' H'
theorem AD {X:Cx} {J:Stmt} {rest:!Stmt} {t u:TS} (W:PS X J t) (Z:SF X rest u):SF X (J::rest) (OQ t u .mk):=by
 intro F s a1 H j U h;let(M,h,a0):=h;show wpAny_execs_cons (cD (W F s a1 H {j with nx:=M} U h) λf s1 q=>?_);cases f with
 |next=>
  let(O,D,V,q):=q;show Z F s1 O D j V (a0 O D q)
 |ret v=>show q
 |brk=>show q
 |cont=>show q
def VI:Option HO->Option (!V)
 |some (.lst xs)=>some xs
 |some (.frz _ (.lst xs))=>some xs
 |_=>none
def PQ:Option HO->Option (!V)
 |some (.tup xs)=>some xs
 |some (.frz _ (.tup xs))=>some xs
 |_=>none
theorem I0 {xs:!V}:VI (some (.lst xs))>xs:=rfl
theorem K0 {xs:!V}:PQ (some (.tup xs))>xs:=rfl
set_option tactic.hygienic true in
theorem L0 {K:PySem.W.Frag} {H:Hp} {a:Addr} {xs:!V} (h:VI (H a)>xs):uC K H a xs:=by
 unfold VI at h
 split at h
 .rename_i e;cases h;show .inl (.inl e)
 .rename_i e;cases h;show .inl (.inr ⟨_,e⟩)
 .cases h
def rIxH:R2:=λx y H Q=>∃p xs i v,x=.ref p/\y=.int i/\VI (H p)>xs/\WF xs i>v/\Q v H
theorem GK {X:Cx}:YH X rIxH:=by
 intro a1 a0 V s a3 H x y v u Q j W Z h U;let(p,xs,i,a2,D,F,J,O,q):=h;show LC a1 a0 V s a3 H x y v u Q j W Z (p,xs,i,a2,D,F,L0 J,O,q) U
theorem M0 {i j:Int}:WH (.int i) (.int j)=true:=rfl
theorem N0 {i j:Bool}:WH (.bl i) (.bl j)=true:=rfl
theorem O0 {i j:Str}:WH (.str i) (.str j)=true:=rfl
theorem QQ:Int.natAbs 10=10:=rfl
theorem vD {H:Hp}:pC H H:=λο ο h=>h
theorem gE {H j:Hp} {p:Addr} {o:HO} (s:pC H j) (h:j p=none):pC H (upd j p o):=λb u e=>by
 let q:=s b u e;rw[sC (mE q h)];show q
inductive EH (g:TG) (tb:TS):Type where
 |mk:EH g tb
def WI (g:TG) (tb:TS) (_:EH g tb) (J:It):TS:=λD σ H=>∃W:Nat->Nat->St->Hp->Prop,(∃m,W 0 m σ H)/\∀i m σ H,W i m σ H->
 (J.stop i H/\D.nx σ H)\/(J.go i H/\∃N:St->Hp->Prop,(∀σ' H',N σ' H'->∃m',m' < m/\W (i+1) m' σ' H')/\∀x H',J.yld i H x H'->g x σ H' λσ2 H2=>tb {D with nx:=N,ct:=N,bk:=D.nx} σ2 H2)
def BJ (wi:TI) (g:TG) (tb:TS) (h:EH g tb):TS:=λD σ H=>wi σ H λJ H1=>WI g tb h J D σ H1
theorem DG {X:Cx} {q j:Expr} {D:!Stmt} {J:TI} {g:TG} {F:TS} {a1:Pos} (Z:PassesOwn (model X.prog X.w) X.A X.env X.xe) (U:X.calm=true) (W:PI X q j J) (V:PG X q g) (O:SF X D F)
 (a0:∀x,foldedSetIterable j X.env x=pure x:=by intro _;rfl):PS X (.For q j D [] a1) (BJ J g F .mk):=vK Z U W V O a0
theorem CJ {lo:Int} {n:Nat} {g:TG} {F:TS} {h:EH g F} {D:NE} {j:St} {H:Hp} (q:Nat->St->Hp->Prop) (O:q 0 j H)
 (U:∀i j H,i < n->q i j H->g (.int (lo+i)) j H λV J=>F {D with nx:=q (i+1),ct:=q (i+1),bk:=D.nx} V J) (hd:∀j H,q n j H->D.nx j H):WI g F h (LI lo n) D j H:=qZ q O U hd
theorem HK {K:PySem.W.Frag} {a:Addr} {xs:!V} {g:TG} {F:TS} {h:EH g F} {D:NE} {j:St} {H:Hp} (q:Nat->St->Hp->Prop) (O:q 0 j H) (U:∀i j H,i<=xs.length->q i j H->uC K H a xs)
 (W:∀i x j H,xs[i]?>x->q i j H->g x j H λZ J=>F {D with nx:=q (i+1),ct:=q (i+1),bk:=D.nx} Z J) (hd:∀j H,q xs.length j H->D.nx j H):WI g F h (lJ K a) D j H:=pZ q O U W hd
theorem pP {H:Hp} {x j:Addr} {o:HO} (D:H x=none) (hd:H j=none) (q:j≠x):pC H (upd (upd H j (.own x)) x o):=
 gE (gE vD hd) (by rw[sC (Ne.symm q)];show D)
theorem yW {H:Hp} {a:Addr} {xs:!V} (h:H a>(.tup xs)):dH "tuple" H (.ref a)=true:=by
 unfold dH;rw[show kd H (.ref a)=DF (H a) from rfl,h];rfl
theorem zW {H:Hp} {a:Addr} {xs:!V} (h:H a>(.lst xs)):dH "list" H (.ref a)=true:=by
 unfold dH;rw[show kd H (.ref a)=DF (H a) from rfl,h];rfl
section
variable {X:Cx} {pins pins2:!(Addr×Obj)} {σ:St} {H:Hp} {s:Shared} {E':Value->Shared->Prop}
theorem Cx.Ok.re {pn:!(Addr×Obj)} (ok:X.Ok):({X with xe:=E',pn:=pn}:Cx).Ok:=
 (ok.mod,ok.kind,ok.glob,ok.blt,ok.above,ok.inj,ok.has,ok.cab,ok.hd,ok.frames,ok.stk,ok.exf,ok.bs,ok.bsz,ok.noex,ok.exfs,ok.funs,ok.frf)
theorem vC.re (j:vC X pins σ H s):vC {X with xe:=E',pn:=X.pn++pins} [] σ H s:=
 (j.ok.re,j.os,j.bare,j.base,j.loc,j.cell,j.free,j.freeC,λp q=>j.pin p (by rw[iC] at q;show q),j.hok,j.len)
theorem vC.unre (ok:X.Ok) (j:vC {X with xe:=E',pn:=X.pn++pins} pins2 σ H s):vC X pins σ H s:=
 (ok,j.os,j.bare,j.base,j.loc,j.cell,j.free,j.freeC,λp q=>j.pin p (xB _ q),j.hok,j.len)
theorem vC.marked {v : Option Value} (I : vC X pins σ H s) : vC { X with A := X.A.mark v, calm := false, xe := E' } pins σ H s :=
  ((I.ok.mod, I.ok.kind, I.ok.glob, I.ok.blt, I.ok.above, I.ok.inj, I.ok.has, I.ok.cab, λz => Bool.noConfusion z, I.ok.frames, I.ok.stk, I.ok.exf, I.ok.bs, I.ok.bsz, I.ok.noex, I.ok.exfs, I.ok.funs, I.ok.frf),
    I.os, I.bare, I.base, I.loc, I.cell, I.free, I.freeC, I.pin, I.hok, I.len)
theorem vC.unmarked {v:Option Value} (ok:X.Ok) (I:vC {X with A:=X.A.mark v,calm:=false,xe:=E'} pins σ H s):vC X pins σ H s:=
 (ok,I.os,I.bare,I.base,I.loc,I.cell,I.free,I.freeC,I.pin,I.hok,I.len)
end
end L2
namespace PySem.W
open PySem PySem.Spec PySem.Calls PyProof.Rows
open Builtin Builtin.ObjectAttr Builtin.Getset_descriptor
def DJ (e C:Addr) (h:Heap):Prop:=∃o,h.get? e>o/\o.cls=.ref C
section
variable {K:Frag} {e C:Addr}
theorem DJ.ty {M:Model} {h:Heap} (p:DJ e C h):Looks M h (typeOf (.ref e)) (.ref C):=by
 let(o,j,q):=p;show q ▸ (Looks.ld j).andThen .now
variable {prog:Program} {w:World} {A:Around} {E:Value->Shared->Prop} {s:Shared}
end
end PySem.W
namespace L2
open PySem PySem.Spec PyProof.Rows
def AN:V->Value
 |.ref a=>.ref a
 |.ty n=>.type n
 |_=>.none
theorem P0 {a:Addr}:AN (.ref a)=.ref a:=rfl
theorem Q0 {n:String}:AN (.ty n)=.type n:=rfl
inductive Dv where
 |leaf (v:V)
 |seq (t:Bool) (ds:!Dv)
mutual
noncomputable def ID (K:PySem.W.Frag) (H:Hp):Dv->V->Prop
 |.leaf v,x=>x=v/\bE v=true
 |.seq t ds,x=>∃a xs,x=.ref a/\(if t=true then VC K H a xs else uC K H a xs)/\IC K H ds xs
noncomputable def IC (K:PySem.W.Frag) (H:Hp):!Dv->!V->Prop
 |[],xs=>xs=[]
 |d::ds,xs=>∃x r,xs=x::r/\ID K H d x/\IC K H ds r
end
mutual
noncomputable def IE:Dv->Dv->Bool
 |.leaf _,.leaf _=>true
 |.seq t ds,.seq u es=>t == u&&qD ds es
 |_,_=>false
noncomputable def qD:!Dv->!Dv->Bool
 |d::ds,e::es=>IE d e&&qD ds es
 |_,_=>true
end
mutual
noncomputable def yE:Dv->Dv->Bool
 |.leaf v,.leaf w=>kH v w
 |.seq _ ds,.seq _ es=>rD ds es
 |_,_=>false
noncomputable def rD:!Dv->!Dv->Bool
 |[],[]=>true
 |d::ds,e::es=>yE d e&&rD ds es
 |_,_=>false
end
mutual
noncomputable def RC:Dv->Nat
 |.leaf _=>0
 |.seq _ ds=>AC ds+1
noncomputable def AC:!Dv->Nat
 |[]=>0
 |d::ds=>max (RC d) (AC ds)
end
theorem IC.length {K:PySem.W.Frag} {H:Hp}:∀{ds:!Dv} {xs:!V},IC K H ds xs->ds.length=xs.length
 |[],xs,h=>by unfold IC at h;subst h;rfl
 |d::ds,xs,h=>by
  unfold IC at h;let(x,r,rfl,_,h):=h;simp[h.length]
theorem IC.get {K:PySem.W.Frag} {H:Hp}:∀{ds:!Dv} {xs:!V} {j:Nat} {d:Dv},IC K H ds xs->ds[j]?>d->∃x,xs[j]?>x/\ID K H d x
 |[],xs,j,d,h,e=>by simp at e
 |d'::ds,xs,0,d,h,e=>by
  unfold IC at h;let(x,r,rfl,hx,h):=h;simp at e;subst e;show(x,rfl,hx)
 |d'::ds,xs,j+1,d,h,e=>by
  unfold IC at h;let(x,r,rfl,hx,h):=h;let(y,e1,e2):=IC.get (j:=j) h (by simpa using e);show(y,by simpa using e1,e2)
theorem R0 (n:Nat) (f:Nat->Bool):(List.range (n+1)).all f=(f 0&&(List.range n).all λj=>f (j+1)):=by
 rw[List.range_succ_eq_map,List.all_cons,List.all_map];rfl
theorem RQ:∀(ds es:!Dv),rD ds es=(decide (ds.length=es.length)&&(List.range (min ds.length es.length)).all λj=>yE (ds.getD j (.leaf .non)) (es.getD j (.leaf .non)))
 |[],[]=>by simp[rD]
 |[],e::es=>by simp[rD]
 |d::ds,[]=>by simp[rD]
 |d::ds,e::es=>by
  let ih:=RQ ds es;rw[rD,ih];let hm:min (d::ds).length (e::es).length=min ds.length es.length+1:=by simp[Nat.succ_min_succ]
  rw[hm,R0];simp only[NA,Nat.add_right_cancel_iff,List.getD_cons_zero,List.getD_cons_succ];cases yE d e<;>cases decide (ds.length=es.length)<;>simp
theorem S0 {v:V} (h:bE v=true):kH v v=true:=by
 cases v<;>first|rfl|(simp[kH];done)|exact absurd h (by simp[bE])
mutual
theorem AW {X:Cx} {pins:!(Addr×Obj)} {σ:St} {H:Hp} {s:Shared} (I:vC X pins σ H s):∀(d e:Dv) (x:V),IE d e=true->ID X.K H d x->ID X.K H e x->yE d e=true
 |.leaf a,.leaf b,x,_,hx,hy=>by
  unfold ID at hx hy;let(rfl,fx):=hx;let(rfl,fy):=hy;rw[yE];show S0 fx
 |.leaf a,.seq t es,_,h,_,_=>by simp[IE] at h
 |.seq t ds,.leaf b,_,h,_,_=>by simp[IE] at h
 |.seq t ds,.seq t' es,x,h,hx,hy=>by
  rw[IE,cB] at h;let ht:=ZB.mp h.1;subst ht;unfold ID at hx hy;let(a,xs,rfl,hsx,hL):=hx;let(b,ys,e,hsy,hM):=hy;cases e;rw[yE];let exy:xs=ys:=by
   cases t with
   |true=>show I.tuple_inj (by simpa using hsx) (by simpa using hsy)
   |false=>show I.list_inj (by simpa using hsx) (by simpa using hsy)
  subst exy;show BW I ds es xs h.2 hL hM
theorem BW {X:Cx} {pins:!(Addr×Obj)} {σ:St} {H:Hp} {s:Shared} (I:vC X pins σ H s):∀(ds es:!Dv) (xs:!V),qD ds es=true->IC X.K H ds xs->IC X.K H es xs->rD ds es=true
 |[],[],_,_,_,_=>by rw[rD]
 |[],e::es,xs,_,hx,hy=>by
  unfold IC at hx hy;let(x,r,e1,_):=hy;rw[hx] at e1;cases e1
 |d::ds,[],xs,_,hx,hy=>by
  unfold IC at hx hy;let(x,r,e1,_):=hx;rw[hy] at e1;cases e1
 |d::ds,e::es,xs,h,hx,hy=>by
  rw[qD,cB] at h;unfold IC at hx hy;let(x,r,rfl,hx,hxr):=hx;let(y,r',e1,hy,hyr):=hy;cases e1;rw[rD,AW I d e x h.1 hx hy,BW I ds es r h.2 hxr hyr]
  rfl
end
theorem CW {X:Cx} {aa:!(Addr×Obj)} {ab:St} {H:Hp} {s:Shared} (a0:vC X aa ab H s) {A:Around} {t:Bool} {ds es:!Dv} {a b:Addr} {xs U:!V} (ac:A.units < cLine)
  (a4:if t=true then VC X.K H a xs else uC X.K H a xs) (a5:if t=true then VC X.K H b U else uC X.K H b U) (ad:ds.length=xs.length) (ae:es.length=U.length)
  (a6:∀(j:Nat) (u v:Value) (us vs:!Value),zC xs us->zC U vs->us[j]?>u->vs[j]?>v->SeqAt.EqAt A.in1 s u v (yE (ds.getD j (.leaf .non)) (es.getD j (.leaf .non)))):
  SeqAt.RcAt A s (.ref a) (.ref b) (rD ds es):=by
 rw[RQ];cases t with
 |false=>
  let(D,W,pl,_):=a0.list (show uC X.K H a xs by simpa using a4);let(F,Z,a1,_):=a0.list (show uC X.K H b U by simpa using a5);let a8:=W.length;let a9:=Z.length;by_cases a3:ds.length=es.length
  .let q:=SeqAt.RcAt.lists (e:=λj=>yE (ds.getD j (.leaf .non)) (es.getD j (.leaf .non))) pl.isList a1.isList (by simp;omega) (by omega:A.units < cLine) (λj J O=>by
    let J:j < D.length:=by simpa using J
    let O:j < F.length:=by simpa using O
    let e:=a6 j (D[j]) (F[j]) D F W Z (by simp[J]) (by simp[O]);simpa using e)
   rw[BA a3,Bool.true_and];let a2:min ds.length es.length=D.toArray.size:=by simp;omega
   rw[a2];show q
  .let q:=SeqAt.RcAt.lists_lengths (A:=A) pl.isList a1.isList (by simp;omega) (by omega:A.units < cLine);rw[zA a3,Bool.false_and];show q
 |true=>
  let(D,W,pl,_):=a0.tuple (show VC X.K H a xs by simpa using a4);let(F,Z,a1,_):=a0.tuple (show VC X.K H b U by simpa using a5);let a8:=W.length;let a9:=Z.length;let q:=SeqAt.RcAt.tuples (e:=λj=>yE (ds.getD j (.leaf .non)) (es.getD j (.leaf .non))) (show s.heap.IsTuple a D.toArray from pl) (show s.heap.IsTuple b F.toArray from a1) (by omega:A.units < cLine) (λj J O=>by
    let J:j < D.length:=by simpa using J
    let O:j < F.length:=by simpa using O
    let e:=a6 j (D[j]) (F[j]) D F W Z (by simp[J]) (by simp[O]);simpa using e)
  let a2:min D.toArray.size F.toArray.size=min ds.length es.length:=by simp;omega
  let a7:(D.toArray.size == F.toArray.size)=decide (ds.length=es.length):=by
   rw[YB];simp;omega
  rw[a2,a7,Bool.and_comm] at q;show q
mutual
theorem T0 {X:Cx} {pins:!(Addr×Obj)} {σ:St} {H:Hp} {s:Shared} (I:vC X pins σ H s):∀(d e:Dv) (A:Around) (x y:V) (u v:Value),A.units+RC d < cLine->IE d e=true->ID X.K H d x->ID X.K H e y->DC x u->DC y v->SeqAt.EqAt A s u v (yE d e)
 |.leaf a,.leaf b,A,x,y,u,v,_,_,hx,hy,rx,ry=>by
  unfold ID at hx hy;let(rfl,fx):=hx;let(rfl,fy):=hy;rw[yE];show fW rx ry fx fy
 |.leaf a,.seq t es,A,x,y,u,v,_,h,_,_,_,_=>by simp[IE] at h
 |.seq t ds,.leaf b,A,x,y,u,v,_,h,_,_,_,_=>by simp[IE] at h
 |.seq t ds,.seq t' es,A,x,y,u,v,hu,h,hx,hy,rx,ry=>by
  let h0:=h;rw[IE,cB] at h;let ht:=ZB.mp h.1;subst ht;let hx0:=hx;let hy0:=hy;unfold ID at hx hy;let(a,xs,rfl,hsx,hL):=hx;let(b,ys,rfl,hsy,hM):=hy;cases rx;cases ry;by_cases hab:a=b
  .subst hab;rw[AW I _ _ _ h0 hx0 hy0];show SeqAt.EqAt.same _
  .rw[RC] at hu;let hu1:A.in1.units+AC ds < cLine:=by change A.units+1+AC ds < cLine;omega
   let ih:=qP I ds es A.in1 xs ys hu1 h.2 hL hM;rw[yE];show SeqAt.EqAt.of_refs hab (CW I ⋯ hsx hsy hL.length hM.length ih)
theorem qP {X:Cx} {pins:!(Addr×Obj)} {σ:St} {H:Hp} {s:Shared} (I:vC X pins σ H s):∀(ds es:!Dv) (A:Around) (xs ys:!V),A.units+AC ds < cLine->qD ds es=true->IC X.K H ds xs->IC X.K H es ys->
  ∀(j:Nat) (u v:Value) (us vs:!Value),zC xs us->zC ys vs->us[j]?>u->vs[j]?>v->SeqAt.EqAt A s u v (yE (ds.getD j (.leaf .non)) (es.getD j (.leaf .non)))
 |[],es,A,xs,ys,_,_,hx,hy,j,u,v,us,vs,rx,ry,e1,e2=>by
  unfold IC at hx;subst hx;cases rx;simp at e1
 |d::ds,[],A,xs,ys,_,_,hx,hy,j,u,v,us,vs,rx,ry,e1,e2=>by
  unfold IC at hy;subst hy;cases ry;simp at e2
 |d::ds,e::es,A,xs,ys,hu,h,hx,hy,j,u,v,us,vs,rx,ry,e1,e2=>by
  rw[qD,cB] at h;rw[AC] at hu;unfold IC at hx hy;let(x,r,rfl,hx,hxr):=hx;let(y,r',rfl,hy,hyr):=hy;cases rx with
  |cons p1 p2=>
   cases ry with
   |cons q1 q2=>
    cases j with
    |zero=>
     simp at e1 e2;subst e1 e2;show T0 I d e A x y _ _ ⋯ h.1 hx hy p1 q1
    |succ k=>
     let z:=qP I ds es A r r' ⋯ h.2 hxr hyr k u v _ _ p2 q2 (by simpa using e1) (by simpa using e2);simpa using z
end
theorem AI {A:Around} {k:Nat} (j:FD k A):A.units+4+2 < cLine:=by have:=j.units;omega
def SQ (K:PySem.W.Frag) (n:Nat):R2:=λx y H Q=>∃t ds es,ID K H (.seq t ds) x/\ID K H (.seq t es) y/\qD ds es=true/\AC ds<=n/\Q (.bl (rD ds es)) H
def IK (K:PySem.W.Frag) (n:Nat):R2:=λx y H Q=>∃t ds es,ID K H (.seq t ds) x/\ID K H (.seq t es) y/\qD ds es=true/\AC ds<=n/\Q (.bl (not (rD ds es))) H
theorem BN {X:Cx} {Z:!(Addr×Obj)} {a3:St} {H:Hp} {s:Shared} (j:vC X Z a3 H s) {A:Around} {n:Nat} (a4:A.units+n+2 < cLine) {t:Bool} {ds es:!Dv} {x y:V} {u v:Value} (F:ID X.K H (.seq t ds) x) (J:ID X.K H (.seq t es) y) (O:qD ds es=true) (hd:AC ds<=n)
  (a0:DC x u) (a1:DC y v):SeqAt.RcAt A s u v (rD ds es):=by
 unfold ID at F J;let(a,xs,rfl,U,q):=F;let(b,a2,rfl,W,D):=J;cases a0;cases a1;show CW j ⋯ U W q.length D.length (qP j ds es A.in1 xs a2 (by change A.units+1+AC ds < cLine;omega) O q D)
theorem JK {X:Cx} {n:Nat} (F:X.A.units+n+2 < cLine):yF X (compareOp .Eq) (SQ X.K n):=by
 intro W s Z H x y v u Q j U V h;let(t,ds,es,J,O,D,hd,q):=h;show BN j F J O D hd U V X.prog X.w X.xe _ (.bl _,H,j,rfl,q)
theorem U0 {X:Cx} {aa:!(Addr×Obj)} {ab:St} {H:Hp} {s:Shared} (a0:vC X aa ab H s) {A:Around} {t:Bool} {ds es:!Dv} {a b:Addr} {xs U:!V} (ac:A.units < cLine)
  (a4:if t=true then VC X.K H a xs else uC X.K H a xs) (a5:if t=true then VC X.K H b U else uC X.K H b U) (ad:ds.length=xs.length) (ae:es.length=U.length)
  (a6:∀(j:Nat) (u v:Value) (us vs:!Value),zC xs us->zC U vs->us[j]?>u->vs[j]?>v->SeqAt.EqAt A.in1 s u v (yE (ds.getD j (.leaf .non)) (es.getD j (.leaf .non)))):
  SeqAt.RcNeAt A s (.ref a) (.ref b) (not (rD ds es)):=by
 rw[RQ];cases t with
 |false=>
  let(D,W,pl,_):=a0.list (show uC X.K H a xs by simpa using a4);let(F,Z,a1,_):=a0.list (show uC X.K H b U by simpa using a5);let a8:=W.length;let a9:=Z.length;by_cases a3:ds.length=es.length
  .let q:=SeqAt.RcNeAt.lists (e:=λj=>yE (ds.getD j (.leaf .non)) (es.getD j (.leaf .non))) pl.isList a1.isList (by simp;omega) (by omega:A.units < cLine) (λj J O=>by
    let J:j < D.length:=by simpa using J
    let O:j < F.length:=by simpa using O
    let e:=a6 j (D[j]) (F[j]) D F W Z (by simp[J]) (by simp[O]);simpa using e)
   rw[BA a3,Bool.true_and];let a2:min ds.length es.length=D.toArray.size:=by simp;omega
   rw[a2];show q
  .let q:=SeqAt.RcNeAt.lists_lengths (A:=A) pl.isList a1.isList (by simp;omega) (by omega:A.units < cLine);rw[zA a3,Bool.false_and];show q
 |true=>
  let(D,W,pl,_):=a0.tuple (show VC X.K H a xs by simpa using a4);let(F,Z,a1,_):=a0.tuple (show VC X.K H b U by simpa using a5);let a8:=W.length;let a9:=Z.length;let q:=SeqAt.RcNeAt.tuples (e:=λj=>yE (ds.getD j (.leaf .non)) (es.getD j (.leaf .non))) (show s.heap.IsTuple a D.toArray from pl) (show s.heap.IsTuple b F.toArray from a1) (by omega:A.units < cLine) (λj J O=>by
    let J:j < D.length:=by simpa using J
    let O:j < F.length:=by simpa using O
    let e:=a6 j (D[j]) (F[j]) D F W Z (by simp[J]) (by simp[O]);simpa using e)
  let a2:min D.toArray.size F.toArray.size=min ds.length es.length:=by simp;omega
  let a7:(D.toArray.size == F.toArray.size)=decide (ds.length=es.length):=by
   rw[YB];simp;omega
  rw[a2,a7,Bool.and_comm] at q;show q
theorem mM {X:Cx} {n:Nat} (a2:X.A.units+n+2 < cLine):yF X (compareOp .NotEq) (IK X.K n):=by
 intro a3 s a4 H x y v u Q j Z a0 h;let(t,ds,es,J,O,U,hd,q):=h;unfold ID at J O;let(a,xs,rfl,V,D):=J;let(b,a1,rfl,W,F):=O;cases Z;cases a0;show U0 j ⋯ V W D.length F.length (qP j ds es X.A.in1 xs a1 (by change X.A.units+1+AC ds < cLine;omega) U D F) X.prog X.w X.xe _ (.bl _,H,j,rfl,q)
def zF (sc:Scope) (env:Env) (x:Str) (fs:!Str):Bool:=
 sc.kind == .function&&sc.names.all (λy=>y.2 != .cell&&(y.2 != .local || sc.names.lookup y.1 == some .local)&&(y.2 != .free || env.kindOf y.1 == some .cell || env.kindOf y.1 == some .free))&&
  sc.names.lookup x == some .local&&fs.all (λf=>sc.names.lookup f == some .free)
structure RE (sc:Scope) (env:Env) (x:Str) (fs:!Str):Prop where
 kind:sc.kind=.function
 nocell:∀y∈sc.names,y.2≠.cell
 own:∀y∈sc.names,y.2=.local->sc.names.lookup y.1>.local
 fr:∀y∈sc.names,y.2=.free->env.kindOf y.1>.cell\/env.kindOf y.1>.free
 x:sc.names.lookup x>.local
 fs:∀f∈fs,sc.names.lookup f>.free
theorem RE.of {J:Scope} {F:Env} {x:Str} {fs:!Str} (h:zF J F x fs=true):RE J F x fs:=by
 unfold zF at h;simp only[cB,ZB,List.all_eq_true,Bool.or_eq_true,bne_iff_ne,ne_eq] at h;let(((O,D),U),V):=h;show(O,λy q=>(D y q).1.1,λy q e=>?_,λy q e=>?_,U,V)
 .let j||j:=(D y q).1.2
  .show absurd e j
  .show j
 .rcases (D y q).2 with (j|j)|j
  .show absurd e j
  .show .inl j
  .show .inr j
theorem TQ {env:Env}:∀(names:!(Str×NameKind)) (acc:!(Str×Addr)),(∀n,(n,NameKind.free)∈names->∃c,env.cells.lookup n>c)->
  ∃cl,(forIn names acc λy r=>(do if (y.2 == NameKind.free)=true then do let c<-cellOf env y.1;pure (ForInStep.yield ((y.1,c)::r)) else pure (ForInStep.yield r):Sem (ForInStep (!(Str×Addr)))))=pure cl/\
   (∀n c,cl.lookup n>c->acc.lookup n>c\/env.cells.lookup n>c)/\∀n,(∃c,acc.lookup n>c)\/(n,NameKind.free)∈names->∃c,cl.lookup n>c
 |[],acc,_=>(acc,rfl,λο ο e=>.inl e,λn h=>h.elim id λz=>nomatch z)
 |(n,k)::r,acc,h=>by
  let hr:∀m,(m,NameKind.free)∈r->∃c,env.cells.lookup m>c:=λm hm=>h m (kA _ hm);by_cases hk:k=.free
  .subst hk;let(c,hc):=h n wA;let(cl,e,h1,h2):=TQ r ((n,c)::acc) hr;show(cl,?_,λm c' hm=>?_,λm hm=>h2 m ?_)
   .rw[List.forIn_cons];simp only[beq_self_eq_true,if_true,cellOf,hc,pure_bind];show e
   .let z||z:=h1 m c' hm
    .rw[dC] at z;cases q:m == n with
     |true=>
      rw[q] at z;cases z;rw[ZB.mp q];show .inr hc
     |false=>rw[q] at z;show .inl z
    .show .inr z
   .rw[dC];let(c',z)||hm:=hm
    .cases q:m == n with
     |true=>show .inl ⟨c,rfl⟩
     |false=>show .inl ⟨c',z⟩
    .let z||z:=xA.mp hm
     .cases z;rw[beq_self_eq_true];show .inl ⟨c,rfl⟩
     .show .inr z
  .let(cl,e,h1,h2):=TQ r acc hr;show(cl,?_,h1,λm hm=>h2 m ?_)
   .rw[List.forIn_cons];let hb:(k == NameKind.free)=false:=by simpa using hk
    simp only[hb,aB,GB,pure_bind];show e
   .let z||hm:=hm
    .show .inl z
    .let z||z:=xA.mp hm
     .cases z;show absurd rfl hk
     .show .inr z
theorem V0 {D:Env} {j:Scope} (h:∀n,(n,NameKind.free)∈j.names->∃c,D.cells.lookup n>c):
  ∃cl,closureFor j D=pure cl/\(∀n c,cl.lookup n>c->D.cells.lookup n>c)/\∀n,(n,NameKind.free)∈j.names->∃c,cl.lookup n>c:=by
 let(cl,e,F,J):=TQ j.names [] h;show(cl,?_,λn c U=>(F n c U).elim nofun id,λn O=>J n (.inr O));unfold closureFor;simp only[bind_pure];show e
theorem UQ {env:Env}:∀{names:!(Str×NameKind)} {x:Str} {k:NameKind},(names.map λ(n,k)=>if (k == NameKind.free&&env.scope.kind == .function&&env.kindOf n == some .cell) then (n,NameKind.cell) else (n,k)).lookup x>k->
  k=.cell\/k=.free->names.lookup x>.free\/names.lookup x>.cell
 |[],_,_,h,_=>by simp at h
 |(n,k0)::r,x,k,h,hk=>by
  let ih:=@UQ env r x k;let h:List.lookup x ((if (k0 == NameKind.free&&env.scope.kind == .function&&env.kindOf n == some .cell)=true then (n,NameKind.cell) else (n,k0))::(r.map λ(n,k)=>if (k == NameKind.free&&env.scope.kind == .function&&env.kindOf n == some .cell) then (n,NameKind.cell) else (n,k)))>k:=h;by_cases hc:(k0 == NameKind.free&&env.scope.kind == .function&&env.kindOf n == some .cell)=true
  .rw[iA hc] at h;simp only[dC] at h ⊢;cases hx:x == n with
   |true=>
    simp only[cB,ZB] at hc;rw[hc.1.1];show .inl rfl
   |false=>rw[hx] at h;show ih h hk
  .rw[gA hc] at h;simp only[dC] at h ⊢;cases hx:x == n with
   |true=>
    rw[hx] at h;cases h;let rfl||rfl:=hk
    .show .inr rfl
    .show .inl rfl
   |false=>rw[hx] at h;show ih h hk
theorem DW {env:Env}:∀{names:!(Str×NameKind)} {x:Str},names.lookup x>.free->
  (names.map λ(n,k)=>if (k == NameKind.free&&env.scope.kind == .function&&env.kindOf n == some .cell) then (n,NameKind.cell) else (n,k)).lookup x>.cell\/(names.map λ(n,k)=>if (k == NameKind.free&&env.scope.kind == .function&&env.kindOf n == some .cell) then (n,NameKind.cell) else (n,k)).lookup x>.free
 |[],_,h=>by simp at h
 |(n,k0)::r,x,h=>by
  let ih:=@DW env r x;change List.lookup x ((if (k0 == NameKind.free&&env.scope.kind == .function&&env.kindOf n == some .cell)=true then (n,NameKind.cell) else (n,k0))::_)=_\/List.lookup x ((if (k0 == NameKind.free&&env.scope.kind == .function&&env.kindOf n == some .cell)=true then (n,NameKind.cell) else (n,k0))::_)=_;simp only[dC] at h;by_cases hc:(k0 == NameKind.free&&env.scope.kind == .function&&env.kindOf n == some .cell)=true
  .rw[iA hc];simp only[dC];cases hx:x == n with
   |true=>show .inl rfl
   |false=>rw[hx] at h;show ih h
  .rw[gA hc];simp only[dC];cases hx:x == n with
   |true=>rw[hx] at h;show .inr h
   |false=>rw[hx] at h;show ih h
def lD (X:Cx) (scope:Scope) (cl:!(Str×Addr)) (C:Addr) (N:!Str) (s₀:Shared) (H₀:Hp) (fp:!Addr) (xe:Value->Shared->Prop):Cx:=
 {X with N:=N,s₀:=s₀,H₀:=H₀,env:=compEnvC scope cl C X.env,outer:=X.stack,stack:=X.stack,ex:=fp,fn:=λο=>false,pn:=[],xe:=xe}
theorem CN {X:Cx}:XW X (λο ο ο=>False):=λο ο ο ο ο ο ο ο ο ο ο ο ο ο ο h=>h.elim
inductive EG (g:TG) (tt:TT) (te:TE):Type where
 |mk:EG g tt te
def PF (X:Cx) (ifs:!Expr) (tt:TT):Prop:=
 ∀(pins:!(Addr×Obj)) (s:Shared) (σ:St) (H:Hp) (Q:Bool->Hp->Prop),vC X pins σ H s->tt σ H Q->
  wpAny (model X.prog X.w) X.A (forIn ifs true λc r=>if r=true then do let ok<-isTrue c X.env (eval c X.env);pure (ForInStep.yield ok) else pure (ForInStep.yield r)) (TP X pins σ Q) X.xe s
def tYes:TT:=λο H Q=>Q true H
theorem FG {X:Cx}:PF X [] tYes:=λο ο ο H ο I h=>by
 simp only[List.forIn_nil];show vA (H,I,h)
theorem EW {X:Cx} {c:Expr} {j:TT} (h:PT X c j):PF X [c] j:=λF s J H Q q D=>wpAny_tests_one (h F s J H Q q D)
def fH (g:TG) (tt:TT) (te:TE) (_:EG g tt te) (J:It) (σ0:St) (D:Addr) (Q:Hp->Prop) (H:Hp):Prop:=
 ∃W:Nat->Nat->!V->St->Hp->Prop,(∃m,W 0 m [] σ0 (upd H D (.lst [])))/\∀i m ys σ H,W i m ys σ H->
  (J.stop i H/\Q H)\/(J.go i H/\∃N:!V->St->Hp->Prop,(∀ys σ H,N ys σ H->∃m',m' < m/\W (i+1) m' ys σ H)/\
   ∀y H',J.yld i H y H'->g y σ H' λσ2 H2=>tt σ2 H2 λb H2'=>if b=true then te σ2 H2' λv H3=>H3 D>(.lst ys)/\ys.length < sizeLine/\N (ys++[v]) σ2 (upd H3 D (.lst (ys++[v]))) else N ys σ2 H2')
def gI (wi:TI) (ix:!Nat) (g:TG) (tt:TT) (te:TE) (h:EG g tt te):TE:=λσ H Q=>wi σ H λJ H1=>∀D,H1 D=none->fH g tt te h J (none::ix.map λi=>(σ[i]?).join) D (λH'=>Q (.ref D) H') H1
theorem PH {lo:Int} {n:Nat} {g:TG} {W:TT} {U:TE} {h:EG g W U} {a2:St} {J:Addr} {Q:Hp->Prop} {H:Hp} (F:Nat->!V->St->Hp->Prop) (a6:F 0 [] a2 (upd H J (.lst [])))
  (a7:∀i j D H,i < n->F i j D H->g (.int (lo+i)) D H λO a4=>W O a4 λb Z=>if b=true then U O Z λv a0=>a0 J>(.lst j)/\j.length < sizeLine/\F (i+1) (j++[v]) O (upd a0 J (.lst (j++[v]))) else F (i+1) j O Z) (hd:∀j D H,F n j D H->Q H):
  fH g W U h (LI lo n) a2 J Q H:=by
 show(λi m j D H=>i+m=n/\F i j D H,(n,Nat.zero_add n,a6),λi m j D H ⟨e,p⟩=>?_);by_cases a1:i < n
 .show .inr (a1,F (i+1),λj D H q=>(m - 1,⋯,⋯,q),?_);rintro y a3 ⟨rfl,rfl⟩;show a7 i j D a3 a1 p
 .let a5:i=n:=⋯;subst a5;show .inl ⟨pA _,hd j D H p⟩
theorem nM {K:PySem.W.Frag} {a:Addr} {xs:!V} {g:TG} {Z:TT} {W:TE} {h:EG g Z W} {a2:St} {J:Addr} {Q:Hp->Prop} {H:Hp} (F:Nat->!V->St->Hp->Prop) (a6:F 0 [] a2 (upd H J (.lst []))) (a8:∀i j D H,i<=xs.length->F i j D H->uC K H a xs)
  (a9:∀i x j D H,xs[i]?>x->F i j D H->g x D H λO a4=>Z O a4 λb a0=>if b=true then W O a0 λv a1=>a1 J>(.lst j)/\j.length < sizeLine/\F (i+1) (j++[v]) O (upd a1 J (.lst (j++[v]))) else F (i+1) j O a0) (hd:∀j D H,F xs.length j D H->Q H):
  fH g Z W h (lJ K a) a2 J Q H:=by
 show(λi m j D H=>i+m=xs.length/\F i j D H,(xs.length,Nat.zero_add _,a6),λi m j D H ⟨e,p⟩=>?_);let U:=a8 i j D H ⋯ p;by_cases a7:i < xs.length
 .let ex:xs[i]?>xs[i]:=cA a7;show .inr ((xs,_,U,ex),F (i+1),λj D H q=>(m - 1,⋯,⋯,q),?_);rintro y a3 ⟨rfl,aa⟩;show a9 i y j D a3 (aa xs U) p
 .let a5:i=xs.length:=⋯;subst a5;show .inl ⟨(xs,U,pA _),hd j D H p⟩
theorem W0 {prog:Program} {w:World} {A:Around} {R:Result->Shared->Prop} {s:Shared} {J D a0:Expr} {O:!Expr} {a2:Scope} {a1:Pos} {it F:Value} {j:Env} (q:Nat->Shared->Prop)
  (ac:∀n s,q n s->wpAny (model prog w) A (pyNext it) (λr U=>match r with
   |none=>R (.ok .next) U
   |some v=>wpAny (model prog w) A (letOwnedTupleGo D it v) (λο a3=>wpAny (model prog w) A (assign D j v) (λο a4=>
    wpAny (model prog w) A (forIn O true λc r=>if r=true then do let ok<-isTrue c j (eval c j);pure (ForInStep.yield ok) else pure (ForInStep.yield r)) (λok V=>
     if ok=true then wpAny (model prog w) A (eval J j) (λx a5=>
      wpAny (model prog w) A (call (.builtin "list.append") [F,x]) (λο a6=>∃m,m < n/\q m a6) (notedBy (model prog w) A j λe s'=>R (.error e) s') a5) (notedBy (model prog w) A j λe s'=>R (.error e) s') V
     else ∃m,m < n/\q m V) (notedBy (model prog w) A j λe s'=>R (.error e) s') a4) (notedBy (model prog w) A j λe s'=>R (.error e) s') a3) (notedBy (model prog w) A j λe s'=>R (.error e) s') U) (notedBy (model prog w) A j λe s'=>R (.error e) s') s)
  (n:Nat) (h:q n s):codeAny (model prog w) A (.compLoop (.ListComp J [(D,a0,O,0)] a2 a1) 0 it F j) R s:=by
 show codeAny_loop rfl q (λn s a7=>?_) n h;change wpAny _ _ ((compTurn (.ListComp J [(D,a0,O,0)] a2 a1) 0 it F j).onRaise (λx=>do noteFrame x j;theTreesLotGoes x)) _ _ s;show wpAny_noted ?_;rw[compTurn_list];show eA (wpAny_standAt (eA (FB (ac n s a7) (λr U W=>?_) λο ο h'=>h')));cases r with
 |none=>show vA W
 |some v=>
  show eA (FB W (λο a3 a8=>?_) λο ο h'=>h');show eA (FB a8 (λο a4 a9=>eA (FB a9 (λok V Z=>?_) λο ο h'=>h')) λο ο h'=>h');cases ok with
  |false=>show vA ⟨rfl,Z⟩
  |true=>
   show eA (eA (FB Z (λx a5 aa=>eA (FB aa (λο a6 ab=>vA (vA ⟨rfl,ab⟩)) λο ο h'=>h')) λο ο h'=>h'))
structure EJ (ck:Cx->Prop) (P:Program) (w:World) (K:PySem.W.Frag) (tg:Expr) (J:It) (fp:!Addr) (it:Addr) (tn:Nat->Heap->Prop):Prop where
 obj:∀i h,tn i h->∀b∈fp,∃o,h.get? b>o/\∀v,o.data≠.cell v
 keep:∀i h h',tn i h->(∀b∈fp,∀o,h.get? b>o->h'.get? b>o)->tn i h'
 item:∀(X:Cx),X.prog=P->X.w=w->X.K=K->ck X->∀(i:Nat) (pins:!(Addr×Obj)) (s:Shared) (σ:St) (H:Hp) (E:Value->Shared->Prop),vC X pins σ H s->(∀b∈fp,OE X pins H b)->tn i s.heap->J.go i H->
  wpAny (model P w) X.A (pyNext (.ref it)) (λr s1=>∃u,r>u/\wpAny (model P w) X.A (letOwnedTupleGo tg (.ref it) u) (λο s2=>∃x H',vC X pins σ H' s2/\DC x u/\J.yld i H x H'/\tn (i+1) s2.heap/\∀b∈fp,H' b=none) E s1) E s
 done:∀(X:Cx),X.prog=P->X.w=w->X.K=K->ck X->∀(i:Nat) (pins:!(Addr×Obj)) (s:Shared) (σ:St) (H:Hp) (E:Value->Shared->Prop),vC X pins σ H s->(∀b∈fp,OE X pins H b)->tn i s.heap->J.stop i H->
  wpAny (model P w) X.A (pyNext (.ref it)) (λr s1=>r=none/\vC X pins σ H s1) E s
 self:∀(A:Around) (i:Nat) (s:Shared) (Q:Value->Shared->Prop) (E:Value->Shared->Prop),tn i s.heap->Q (.ref it) s->wpAny (model P w) A (pyIter (.ref it)) Q E s
theorem VG.g {P:Program} {w:World} {K:PySem.W.Frag} {D:Expr} {j:It} {q:!Addr} {it:Addr} {tn:Nat->Heap->Prop} (T:VG P w K D j q it tn):EJ (λX=>X.calm=true) P w K D j q it tn:=(T.obj,T.keep,T.item,T.done,T.self)
section
variable {X:Cx}
theorem FW {bl:Cx->Prop} {a8:!(Addr×Obj)} {a5:St} {a9:Hp} {a1:Shared} {it:Addr} {O:!Addr} {tn:Nat->Heap->Prop} {ab:It} {aq bv ax:Expr} {b5:!Expr} {scope:Scope} {cl:!(Str×Addr)} {bz:Pos} {x:Str} {xs fs:!Str} {ix:!Nat} {g:TG} {c7:TT} {c5:TE}
  {bf:Addr->Hp->Prop} {E:Value->Shared->Prop} {RR:Value->Addr->Result->Shared->Prop}
  (bd:vC X a8 a5 a9 a1) (T:EJ bl X.prog X.w X.K aq ab O it tn) (c2:tn 0 a1.heap) (bn:∀b∈O,OE X a8 a9 b) (bq:∀C ad aa F,bl (lD X scope cl C (xs++fs) ad aa O F)) (S:RE scope X.env x fs)
  (ac:∀n c,cl.lookup n>c->X.env.cells.lookup n>c) (bh:∀n,(n,NameKind.free)∈scope.names->∃c,cl.lookup n>c) (br:ix.map (X.N[·]?)=fs.map some)
  (cr:∀C ad aa F,PG (lD X scope cl C (xs++fs) ad aa O F) aq g) (cq:∀C ad aa F,PF (lD X scope cl C (xs++fs) ad aa O F) b5 c7) (cp:∀C ad aa F,PE (lD X scope cl C (xs++fs) ad aa O F) ax c5)
  (h:∀af,a9 af=none->fH g c7 c5 .mk ab (List.replicate xs.length none++ix.map λi=>(a5[i]?).join) af (bf af) a9)
  (fin:∀af C a2 s',vC X a8 a5 a2 s'->bf af a2->(∃m,s'.heap.Ns C m)->OE X a8 a2 C->RR (.ref af) C (.ok .next) s'):
  wpAny (model X.prog X.w) X.A (newList []) (λbg dd=>wpAny (model X.prog X.w) X.A (newFunctionEnv scope X.env.globals cl [] X.env.qual none .none (some X.env)) (λbj de=>
   codeAny (model X.prog X.w) X.A (.compStart (.ListComp ax [(aq,bv,b5,0)] scope bz) 0 (.ref it) bg {bj with scope:=relabel scope X.env}) (RR bg bj.locals) de) E dd) E a1:=by
 let cm:a9 a1.heap.objs.size=none:=bd.hok.fresh (pA _);let(W,(cz,dh),df):=h _ cm;show wpAny_newObj_type (wpAny_newFunctionEnv S.nocell (by intro y a4;simp at a4) (λag b1 b4=>?_) S.kind);let a0:vC X a8 a5 (upd a9 a1.heap.objs.size (.lst [])) {a1 with heap:=a1.heap.push {cls:=.type "list",dict:=none,data:=.seq ([]:!Value).toArray}}:=
  bd.laid (t':=a1.toks) (λb u e=>uA _ e) (pA _) (by decide,[],0,.nil,HA _ rfl)
 obtain⟨J,ay⟩:∃d7:Shared,d7={a1 with heap:=a1.heap.push {cls:=.type "list",dict:=none,data:=.seq ([]:!Value).toArray}}:=⟨_,rfl⟩
 rw[<-ay] at a0;let az:a1.heap.push {cls:=.type "list",dict:=none,data:=.seq ([]:!Value).toArray}=J.heap:=by rw[ay]
 let c4:J.heap.objs.size=a1.heap.objs.size+1:=by rw[<-az,Heap.size_push]
 dsimp only at b1 b4 ⊢;rw[az] at b1 b4 ⊢;generalize co:upd a9 a1.heap.objs.size (.lst [])=H3 at *;let fD:∀b∈O,b < a1.heap.objs.size:=λb D=>let ⟨_,e,_⟩:=T.obj _ _ c2 b D;EA e
 let a6:∀b∈O,OE X a8 H3 b:=λb D=>by
  show⟨?_,(bn b D).2⟩;rw[<-co,sC (SA (fD b D))];show (bn b D).1
 let c8:OE X a8 H3 J.heap.objs.size:=a0.fpOk (pA _) (a0.hok.fresh (pA _));let b6:∀b o,J.heap.get? b>o->ag.get? b>o:=λb o e=>b4.extBut b o (SA (EA e)) (uA _ e);let nofs:∀b∈O,b∉aE X.stack:=λb D Z=>(xA.mp (a0.stkSub b Z)).elim (a6 b D).2.1 (a6 b D).2.2.1;let bu:tn 0 ag:=T.keep _ _ _ c2 λb ο o e=>b6 b o (by rw[<-az];show uA _ e);let am:=a0.env0;let ok:∀F,(lD X scope cl J.heap.objs.size (xs++fs) J H3 O F).Ok:=λF=>by
  show(a0.ok.mod,S.kind,a0.ok.glob,a0.ok.blt,pA _,λy Z c a7 U=>a0.ok.inj y Z c (ac _ _ a7) (ac _ _ U),λy a4=>?_,λy c Z=>?_,a0.ok.hd,a0.ok.frames,.inl rfl,λb D=>⟨?_,λy c e=>(a6 b D).2.2.2.2.1 y c (ac _ _ e)⟩,am.bs,am.bsz,λb o e D=>?_,nofs,am.funs,am.frf)
  .let q:scope.names.lookup y>.free\/scope.names.lookup y>.cell:=by
    let a4||a4:=a4
    .show UQ a4 (.inl rfl)
    .show UQ a4 (.inr rfl)
   let q||q:=q
   .show bh y (PySem.mem_of_lookup q)
   .show absurd rfl (S.nocell _ (PySem.mem_of_lookup q))
  .cases Z
  .show SA (OA (fD b D) (by rw[c4];show Nat.le_succ _))
  .let Z||Z:=(a6 b D).2.2.2.1
   .show a0.ok.noex b o e Z
   .show absurd (OA (EA e) (kB a0.ok.bsz Z)) (kC _)
 let bi:∀c v,J.heap.IsCell c v->ag.IsCell c v:=λc v ⟨o,cx,hd⟩=>(o,b6 _ _ cx,hd)
 let cb:∀F,vC (lD X scope cl J.heap.objs.size (xs++fs) J H3 O F) [] (List.replicate xs.length none++ix.map λi=>(a5[i]?).join) H3 {J with heap:=ag,toks:=J.toks+([]:!(Str×Value)).length}:=λF=>by
  let bt:∀b o,J.heap.get? b>o->ag.get? b>o:=b6;show(ok F,rfl,a0.bare,Un.kept bt,(_,b1,λi y v a7 U dn=>?_),λy c e=>?_,a0.hok.fresh (pA _),λy c e=>a0.freeC y c (ac _ _ e),λp b2=>absurd (show p∈([]:!(Addr×Obj)) from b2) (by simp),a0.hok.kept bt,?_)
  .by_cases cw:i < xs.length
   .let U:(List.replicate xs.length (none:Option V)++ix.map λi=>(a5[i]?).join)[i]?>(some v):=U;rw[List.getElem?_append_left (by rw[qA];show cw)] at U;let Z:=YA (dA U);cases Z
   .let a7:(xs++fs)[i]?>y:=a7;let U:(List.replicate xs.length (none:Option V)++ix.map λi=>(a5[i]?).join)[i]?>(some v):=U;rw[IB ⋯] at a7;rw[IB (by rw[qA];omega),qA] at U;generalize i - xs.length=i at a7 U;let a4:=S.fs y (dA a7);rw[FA] at U;cases aw:ix[i]? with
    |none=>rw[aw] at U;cases U
    |some j=>
     rw[aw] at U;let U:(a5[j]?).join>v:=bA U;let cy:a5[j]?>(some v):=by
      cases q:a5[j]? with
      |none=>rw[q] at U;cases U
      |some o=>rw[q] at U;cases o with
       |none=>cases U
       |some o=>cases U;rfl
     let ao:X.N[j]?>y:=by
      let Z:=congrArg (·[i]?) br;simp only[FA,aw,a7,Option.map_some] at Z;show bA Z
     let bw:=S.fr _ (PySem.mem_of_lookup a4) rfl;let(m,ap,cu):=a0.loc;let(u,r,l):=cu j y v ao cy (by let k||k:=bw;show .inr (.inl k);show .inr (.inr k));show(u,r,.inr ⟨DW a4,?_⟩);let(l,_)||(_,c,e,Z):=l
     .let k||k:=bw<;>(rw[l] at k;cases k)
     .let(dl,bm):=bh y (PySem.mem_of_lookup a4);let q:=ac _ _ bm;rw[e] at q;cases q;show(c,bm,bi _ _ Z)
  .let(v,Z):=a0.cell y c (ac _ _ e);show⟨v,bi _ _ Z⟩
  .let Z:=congrArg List.length br;simp only[fA] at Z;change (List.replicate xs.length none++_:St).length=(xs++fs).length;rw[jA,jA,qA,fA,Z]
 let back:∀{F ai a2 s'},vC (lD X scope cl J.heap.objs.size (xs++fs) J H3 O F) [] ai a2 s'->vC X a8 a5 a2 s':=λ{F ai a2 s'} ab=>
  a0.call' (s':=s') (ch:=O) ab.os ab.base ab.hok ab.bare λb D=>((a6 b D).2.2.2.1,(a6 b D).2.1,(a6 b D).2.2.2.2.1,(a6 b D).2.2.2.2.2)
 let b9:∀{F} {a2:Hp},(∀b∈O,a2 b=none)->∀b∈O,OE (lD X scope cl J.heap.objs.size (xs++fs) J H3 O F) [] a2 b:=λ{F a2} ap b D=>
  (ap b D,SA (OA (fD b D) (by rw[c4];show Nat.le_succ _)),nofs b D,.inl D,λy c e=>(a6 b D).2.2.2.2.1 y c (ac _ _ e),λp b2=>absurd (show p∈([]:!(Addr×Obj)) from b2) (by simp))
 let bx:∀b8:Shared,b8={J with heap:=ag,toks:=J.toks+([]:!(Str×Value)).length}->
   codeAny (model X.prog X.w) X.A (.compLoop (.ListComp ax [(aq,bv,b5,0)] scope bz) 0 (.ref it) (.ref a1.heap.objs.size) (compEnvC scope cl J.heap.objs.size X.env)) (RR (.ref a1.heap.objs.size) J.heap.objs.size) b8:=by
  rintro b8 rfl
  letI F:=notedBy (model X.prog X.w) X.A (compEnvC scope cl J.heap.objs.size X.env) λe s'=>RR (.ref a1.heap.objs.size) J.heap.objs.size (.error e) s'
  show W0 (λn s'=>∃i ae ai a2,vC (lD X scope cl J.heap.objs.size (xs++fs) J H3 O F) [] ai a2 s'/\tn i s'.heap/\(∀b∈O,a2 b=none)/\W i n ae ai a2) ?_ cz (0,[],_,_,cb F,bu,λb D=>(a6 b D).1,dh);rintro n c0 ⟨i,ae,ar,ak,be,c3,bp,di⟩;let(dc,d3)||(go,N,ao,step):=df i n ae ar ak di
  .show cD (T.done (lD X scope cl J.heap.objs.size (xs++fs) J H3 O F) rfl rfl rfl (bq _ _ _ _) i [] c0 ar ak F be (b9 bp) c3 dc) λr c1 a3=>?_;let(b3,av):=a3;subst b3;let(m,ap,_):=av.loc;show fin _ _ ak c1 (back av) d3 ⟨m,ap⟩ ⟨av.free,c8.2⟩
  .show cD (T.item (lD X scope cl J.heap.objs.size (xs++fs) J H3 O F) rfl rfl rfl (bq _ _ _ _) i [] c0 ar ak F be (b9 bp) c3 go) λr c1 a3=>?_;let(u,b3,ck):=a3;subst b3;show cD ck λ_ d8 a3=>?_;let(y,bb,cc,d4,dj,ah,cj):=a3;let cd:=cc.pinned (b9 cj) (T.obj _ _ ah);show cD (cr _ _ _ F _ d8 ar bb y u _ cd d4 (step y bb dj)) λ_ d9 a3=>?_;let(aj,c9,ce,d2):=a3;show cD (cq _ _ _ F _ d9 aj c9 _ ce d2) λok da a3=>?_;let(ca,al,b7):=a3;cases ok with
   |false=>
    let(m',b0,ba):=ao _ _ _ (by simpa using b7);show(m',b0,i+1,ae,aj,_,al.unpinned,T.keep _ _ _ ah λb D o e=>(al.pin (b,o) (DA _ (DA _ (gM D e)))).1,λb D=>?_,ba);let(o,e,cg):=T.obj _ _ ah b D;show (al.pin (b,o) (DA _ (DA _ (gM D e)))).2.1
   |true=>
   rw[iA rfl] at b7 ⊢;show cD (cp _ _ _ F _ da aj ca _ al b7) λdg db a3=>?_;let(v,bc,cf,d5,cn,cv,d1):=a3;let(m',b0,ba):=ao _ _ _ d1;show cD (BH (X:=lD X scope cl J.heap.objs.size (xs++fs) J H3 O F) _ db aj bc (.ref a1.heap.objs.size) [v] _ [dg] (λο a2=>a2=upd bc a1.heap.objs.size (.lst (ae++[v]))) cf rfl (.cons d5 .nil) (_,ae,v,rfl,rfl,cn,cv,rfl)) λ_ dp a3=>?_;let(_,dk,au,_,ci):=a3;subst ci;show(m',b0,i+1,ae++[v],aj,_,au.unpinned,T.keep _ _ _ ah λb D o e=>(au.pin (b,o) (DA _ (DA _ (gM D e)))).1,λb D=>?_,ba);let(o,e,cg):=T.obj _ _ ah b D;show (au.pin (b,o) (DA _ (DA _ (gM D e)))).2.1
 subst ay;show codeAny_compStart_list (bx _ rfl) (T.self X.A 0 _ _ _ bu (bx _ rfl))
theorem RE.clos {F:!(Addr×Obj)} {J:St} {H:Hp} {s:Shared} {j:Scope} {x:Str} {fs:!Str} (S:RE j X.env x fs) (q:vC X F J H s):
  ∃cl,closureFor j X.env=pure cl/\(∀n c,cl.lookup n>c->X.env.cells.lookup n>c)/\∀n,(n,NameKind.free)∈j.names->∃c,cl.lookup n>c:=
 V0 λn D=>q.ok.has n (S.fr _ D rfl)
theorem FH {V U Z:Expr} {a0:!Expr} {O:Scope} {b0:Pos} {x:Str} {fs:!Str} {ix:!Nat} {a4:TI} {g:TG} {a3:TT} {a2:TE} (am:X.calm=true) (au:PI X V U a4) (aw:zF O X.env x fs=true) (av:ix.map (X.N[·]?)=fs.map some)
  (ar:∀cl C D j J F,PG (lD X O cl C (x::fs) D j J F) V g) (aq:∀cl C D j J F,PF (lD X O cl C (x::fs) D j J F) a0 a3) (ap:∀cl C D j J F,PE (lD X O cl C (x::fs) D j J F) Z a2) (ay:∀x,foldedSetIterable U X.env x=pure x:=by intro _;rfl):
  PE X (.ListComp Z [(V,U,a0,0)] O b0) (gI a4 ix g a3 a2 .mk):=by
 intro a1 s a5 H Q W h;let S:=RE.of aw;let(cl,ao,ab,ac):=S.clos W;rw[eval_ListComp];show wpAny_comprehension_free (use:=none) rfl ay ao S.kind S.own (cD (au a1 s a5 H _ W h) λv s1 aj=>cD aj λb4 b5 ak=>?_);let(it,J,tn,b3,b2,e,a9,T,b1,af,q):=ak;subst e;show FW (xs:=[x]) (RR:=λaa C=>compPost (model X.prog X.w) X.A X.xe none (EP X a1 a5 Q) aa C) a9 T.g b1 af (λο ο ο ο=>am) S ab ac av (λC D j F=>ar cl C D j J F) (λC D j F=>aq cl C D j J F) (λC D j F=>ap cl C D j J F) q λa6 C a7 s' a8 q' ⟨m,ax⟩ ⟨ad,ae,_,ag,ah,ai⟩=>?_;show(m,ax,λh' az=>(.ref a6,a7,a8.turned (t':=s'.toks) (λb o al e=>(az.2 b al).trans e) ad ae ag ah ai,rfl,q'))
theorem oM {Z U a0:Expr} {a1:!Expr} {O:Scope} {a3 aa V:Pos} {x y:Str} {i:Nat} {fs:!Str} {ix:!Nat} {ad:TI} {g:TG} {ac:TT} {ab:TE} (au:X.N.Nodup) (ba:X.N[i]?>y) (a9:X.env.kindOf y>.local) (aw:X.calm=true) (b1:PI X Z U ad)
  (b3:zF O X.env x fs=true) (b2:ix.map (X.N[·]?)=fs.map some)
  (b0:∀cl C D j J F,PG (lD X O cl C (x::fs) D j J F) Z g) (az:∀cl C D j J F,PF (lD X O cl C (x::fs) D j J F) a1 ac) (ay:∀cl C D j J F,PE (lD X O cl C (x::fs) D j J F) a0 ab)
  (b9:swapsWith (.ListComp a0 [(Z,U,a1,0)] O a3) (some (.Name y V)) aa.line X.env=pure true:=by rfl) (b7:∀x,foldedSetIterable U X.env x=pure x:=by intro _;rfl):
  PS X (.Assign [.Name y V] (.ListComp a0 [(Z,U,a1,0)] O a3) aa) (KI (gI ad ix g ac ab .mk) (BF i)):=by
 intro a2 s bf H a4 a6 h;let S:=RE.of b3;let(cl,ax,aj,ak):=S.clos a6;rw[exec_Assign_Name_used _ _ _ _ b9];show eA (wpAny_standAt (eA ?_));change wpAny _ X.A (do let _<-comprehension (.ListComp a0 [⟨Z,U,a1,0⟩] O a3) O X.env _ (newList []) false (eval U X.env) (some (assign (.Name y V) X.env))) _ _ s;show eA (FB (wpAny_comprehension_free (use:=some (assign (.Name y V) X.env)) (Q:=λο s'=>SP X a2 a4 .next s') rfl b7 ax S.kind S.own
  (cD (b1 a2 s bf H _ a6 h) λv s1 aq=>cD aq λbi bj ar=>?_)) (λο s' b6=>vA (vA b6)) λο ο e=>e)
 let(it,J,tn,bh,bg,e,ah,T,bd,am,q):=ar;subst e;show FW (xs:=[x]) (RR:=λai C=>compPost (model X.prog X.w) X.A X.xe (some (assign (.Name y V) X.env)) (λο s'=>SP X a2 a4 .next s') ai C) ah T.g bd am (λο ο ο ο=>aw) S aj ak b2 (λC D j F=>b0 cl C D j J F) (λC D j F=>az cl C D j J F) (λC D j F=>ay cl C D j J F) q
  λa5 C ae s' af q' ⟨m,b4⟩ ⟨al,a7,_,ao,a8,ap⟩=>?_
 change wpAny _ X.A (assign (.Name y V) X.env (.ref a5)) _ _ _;show wpAny_assign_Name (GV (v:=.ref a5) af au ba (.inl a9) rfl (λbb ag ⟨a,bc,W⟩=>?_) (.inr a9));let b5:C≠a:=by
  let W||W:=W
  .rw[W];show a7
  .show λbe=>a8 _ _ W be.symm
 show(m,b4.sameBut bc b5,λh' b8=>(_,ae,ag.turned (t':=bb.toks) (λb o av e=>(b8.2 b av).trans e) al a7 ao a8 ap,q'))
end
section
variable {X:Cx} {pins:!(Addr×Obj)} {σ:!(Option V)} {H H':Hp} {s:Shared} {h':Heap}
theorem vC.turnedL {t':Nat} {ch:!Addr} (O:vC X pins σ H s) (k:∀b o,b∉ch->s.heap.get? b>o->h'.get? b>o) (F:∀b∈ch,OE X pins H b):vC X pins σ H {s with heap:=h',toks:=t'}:=by
 let U:∀b u,H b>u->b∉ch:=λb u e D=>by rw[(F b D).1] at e;cases e
 show O.step (g':=s.gens) (d':=s.drawn) (ch:=ch) (λb J=>((F b J).2.2.2.1,(F b J).2.1,(F b J).2.2.2.2.1,(F b J).2.2.2.2.2)) (λb o ο ο j e ο=>k b o j e) (λb o ο ο j e ο=>⟨o.slots,k b o j e⟩) (λο ο ο ο n=>n)
  (λb o j e=>⟨o,k b o j e⟩) (λο ο e=>e) (λο ο ο e=>e) (λb Z e=>⟨#[],by rw[e];simp⟩) (λm V=>?_) (λb u e=>?_) O.bare
 .let(o,es,ep,W,r):=V;show(o,es,ep,k _ o (λD=>(F _ D).2.1 rfl) W,r)
 .show (O.hok b u e).stay (λc v j q=>k c v ?_ q) (λο q=>q) λο ο q=>q;let D||D:=j
  .rw[D];show U b u e
  .show U c _ D
end
def VQ (K:PySem.W.Frag) (a:Addr):It:=
 (λi H=>∃xs x,uC K H a xs/\xs[i]?>x,λi H v H'=>∃t x,v=.ref t/\H t=none/\H'=upd H t (.tup [.int i,x])/\∀xs,uC K H a xs->xs[i]?>x,λi H=>∃xs,uC K H a xs/\xs.length<=i)
theorem X0 {P:Program} {w:World} {K:PySem.W.Frag} {al:!Expr} {x1} {b7:Pos} (a e it:Addr) (af:e≠it):
  VG P w K (.Tuple al x1 b7) (VQ K a) [e,it] e (λi h=>(∃U,IsEnum h e it i U)/\h.IsListIter it a i) where
 mem:=by simp
 obj:=λi h F b j=>by
  let((U,D),o,a5,c,aj):=F;let j:b=e\/b=it:=by simpa using j
  let rfl||rfl:=j
  .show(_,D,λv O=>by
    let b9:Data.fields _=Data.cell v:=O;cases b9)
  .show(o,a5,λv O=>by rw[aj] at O;cases O)
 keep:=λi h h' F k=>⟨let ⟨U,D⟩:=F.1;⟨U,k e (by simp) _ D⟩,F.2.at λo q=>k it (by simp) o q⟩
 item:=by
  intro X a3 a6 a2 ac i a0 s aa H E J V F a4;subst a3 a6 a2;let(xs,x,Z,a7):=a4;let(b5,a8,p,hz):=J.list Z;let(u,b3,b8):=a8.get a7;let((U,D),W):=F;show wpAny_pyNext_enum_item D W p.isList (x:=u) (by simpa using b3) af λbb ao b0 b1 hsz b6=>?_;show(_,rfl,wpAny_letOwnedTupleGo_enum ao λa1 am a9=>?_);let aw:H s.heap.objs.size=none:=J.hok.fresh (pA _);let ad:e≠s.heap.objs.size:=SA (EA D);let az:it≠s.heap.objs.size:=SA (let ⟨_,a5,_⟩:=W;EA a5);let b2:a1.get? s.heap.objs.size>{cls:=.type "tuple",data:=.seq #[.int i s.toks,u]}:=(a9.2 _ (Ne.symm ad)).trans b1;let ag:vC X a0 aa (upd H s.heap.objs.size (.tup [.int i,x])) {s with heap:=s.heap.push {cls:=.type "tuple",data:=.seq #[.int i s.toks,u]}}:=
   J.laid (t':=s.toks) (λb o q=>uA _ q) (pA _) (by change 2<=sizeLine;decide,[.int i s.toks,u],.cons ⟨_,rfl⟩ (.cons b8 .nil),(_,HA _ rfl,rfl,_,rfl))
  let ae:∀b∈[e,it],OE X a0 (upd H s.heap.objs.size (.tup [.int i,x])) b:=λb j=>by
   show⟨?_,(V b j).2⟩;let ax:b=e\/b=it:=by simpa using j
   rw[sC (by let rfl||rfl:=ax;show ad;show az)];show (V b j).1
  let ah:vC X a0 aa (upd H s.heap.objs.size (.tup [.int i,x])) {s with heap:=a1,toks:=s.toks+1}:=by
   let ai:=vC.turnedL (t':=s.toks+1) (h':=a1) (ch:=[e,it]) ag ?k ae
   .show ai
   intro b o j q;dsimp only at q;let ab:b≠e:=λO=>j (by simp[O]);let ay:b≠it:=λO=>j (by simp[O]);let(rfl,rfl)||q:=PySem.Heap.get?_push_cases q
   .show b2
   .show (a9.2 b ab).trans (b6 b o ab ay q)
  show(.ref s.heap.objs.size,_,ah,rfl,(_,x,rfl,aw,rfl,λbd b4=>by rw[J.list_inj b4 Z];show a7),⟨⟨_,am⟩,b0.extBut a9.extBut (Ne.symm af)⟩,λb j=>(ae b j).1)
 done:=by
  intro X a3 a6 a2 ac i a0 s aa H E J V F a4;subst a3 a6 a2;let(xs,Z,a7):=a4;let(b5,a8,p,hz):=J.list Z;let((U,D),W):=F;let(ap,aq,ba,ar,au,av):=V it (by simp);let bc:=a8.length;show wpAny_pyNext_enum_end (J.ok.hd ac) D W p.isList (by simp;omega) λh' ak=>⟨rfl,J.turned (t':=s.toks) (λb o j e=>ak b o j e) ap aq ar au av⟩
 self:=λο ο ο ο ο F h=>let ⟨_,D⟩:=F.1;wpAny_pyIter_enum D h
section
variable {X:Cx}
def FJ (K:PySem.W.Frag) (ta:TA):TI:=λσ H R=>ta σ H λvs H1=>∃a,vs=[.ref a]/\(∃xs,uC K H1 a xs)/\R (VQ K a) H1
theorem Y0:bootBuiltins "enumerate">(.type "enumerate"):=∅
theorem WQ {e:Expr} {ta:TA} {p W ad:Pos} {a1:!Expr} {x1} (a4:Gl X "enumerate") (a6:X.mg "enumerate"=none) (a3:PA X [e] ta) (a8:starEach [e] X.env=[(false,eval e X.env)]:=by rfl):
  PI X (.Tuple a1 x1 ad) (.Call (.Name "enumerate" p) [e] [] W) (FJ X.K ta):=by
 intro V s Z H R J h;show Call_ (OM J a4 a6 Y0 (PyProof.Rows.callWith_type1 (cD (a3 W V s Z H _ J h) λus s1 ae=>?_) a8 rfl));let(vs,F,j,ab,aa):=ae;let(a,a2,(xs,a7),q):=aa;subst a2;cases ab with
 |cons r ac=>
  cases ac;cases r;let(af,ag,pl,hz):=j.list a7;show call_enumerate_list pl.isList λh' O a5 hsz a9=>wpAny_pyIter_enum O ?_;let a0:vC X V Z F {s1 with heap:=h'}:=j.kept (t':=s1.toks) a9;show(s1.heap.objs.size+1,[s1.heap.objs.size+1,s1.heap.objs.size],_,_,F,rfl,a0,X0 a _ _ (Nat.ne_of_gt (Nat.lt_succ_self _)),⟨⟨_,O⟩,a5⟩,λb D=>?_,q);let D:b=s1.heap.objs.size+1\/b=s1.heap.objs.size:=by simpa using D
  let U:s1.heap.objs.size<=b:=by let rfl||rfl:=D;show Nat.le_succ _;show pA _
  show j.fpOk U (j.hok.fresh U)
end
theorem XQ {K:PySem.W.Frag} {a:Addr} {xs:!V} {g:TG} {O:TS} {h:EH g O} {F:NE} {j:St} {H:Hp} (D:Nat->St->Hp->Prop) (Z:D 0 j H) (a1:∀i j H,i<=xs.length->D i j H->uC K H a xs)
  (a2:∀i x t j H,xs[i]?>x->D i j H->H t=none->g (.ref t) j (upd H t (.tup [.int i,x])) λa5 U=>O {F with nx:=D (i+1),ct:=D (i+1),bk:=F.nx} a5 U) (hd:∀j H,D xs.length j H->F.nx j H):WI g O h (VQ K a) F j H:=by
 show(λi m j H=>i+m=xs.length/\D i j H,(xs.length,Nat.zero_add _,Z),λi m j H ⟨e,p⟩=>?_);let J:=a1 i j H ⋯ p;by_cases a0:i < xs.length
 .let ex:xs[i]?>xs[i]:=cA a0;show .inr ((xs,_,J,ex),D (i+1),λj H q=>(m - 1,⋯,⋯,q),?_);rintro y a6 ⟨t,x,rfl,a3,rfl,a4⟩;show a2 i x t j H (a4 xs J) p a3
 .let W:i=xs.length:=⋯;subst W;show .inl ⟨(xs,J,pA _),hd j H p⟩
section
variable {X:Cx} {pins:!(Addr×Obj)} {σ:St} {H:Hp} {s:Shared} {a:Addr} {kvs:!(Key×V)} {k:Key} {u r:Value} {z:V} {A:Around} {E:Value->Shared->Prop}
end
section
variable {X:Cx} {o e f:Expr} {apos cpos:Pos} {td ty tx:TE}
end
theorem GW:∀{bs:!Bool} {us:!Value},zC (bs.map V.bl) us->LSm.BoolsAre us bs
 |[],_,h=>by cases h;show .nil
 |b::bs,_,h=>by
  cases h with
  |cons r rr=>
   cases r;show .cons _ (GW rr)
theorem Z0 {X:Cx} (W:X.calm=true):xE X (.builtin "any") (λxs H Q=>∃(p:Addr) (bs:!Bool),xs=[.ref p]/\uC X.K H p (bs.map V.bl)/\Q (.bl (bs.any id)) H):=by
 intro a5 s a6 H xs us Q j r h;let(p,bs,rfl,a1,q):=h;let(u,rfl,a2):=XE r;cases a2;let(F,r',pl,hz):=j.list a1;let O:=GW r';let D:=pl.isList;let a0:p < s.heap.objs.size:=by let(_,e,_):=id D;show EA e
 show call_any_walk (wpAny_pyIter_list D ?_);show(s.heap.objs.size,[s.heap.objs.size,p],[s.heap.objs.size],F.toArray.size,_,_,λi=>(bs[i]?).getD false,rfl,Walks.list (A:=X.A.in1) (j.ok.hd W) _ p (SA a0) F.toArray,
  ⟨(_,HA _ rfl,rfl,rfl),D.push _⟩,λi v s' a4 E' U J=>?_,λh' a3 Z=>?_)
 .let(b,e,rfl):=O.get i v (by simpa using U);simp only[e,Option.getD_some] at J;show wpAny_truthy_bool J
 .let e:((List.range F.toArray.size).any λi=>(bs[i]?).getD false)=bs.any id:=by
   rw[CA,O.length];show LSm.range_any bs
  rw[e];show(.bl (bs.any id),H,j.kept (t':=a3) (LSm.kept_iter Z),rfl,q)
inductive LK (c:TT) (tb:TS):Type where
 |mk:LK c tb
inductive MK (tb:TS):Type where
 |mk:MK tb
def GJ (c:TT) (tb:TS) (_:LK c tb):TS:=UH c tb
def HJ (tb:TS) (_:MK tb) (Pv:Nat->St->Hp->Prop) (m:Nat) (D:NE) (σ:St) (H:Hp):Prop:=
 ∃N:St->Hp->Prop,(∀σ' H',N σ' H'->∃m',m' < m/\Pv m' σ' H')/\tb {D with nx:=N,ct:=N,bk:=D.nx} σ H
theorem HW {X:Cx} {c:Expr} {j:!Stmt} {D:TT} {q:TS} {U:Pos} (O:PassesOwn (model X.prog X.w) X.A X.env X.xe) (J:PT X c D) (F:SF X j q):PS X (.While c j [] U) (GJ D q .mk):=jZ O J F
theorem IW {c:TT} {F:TS} {h:LK c F} {D:NE} {j:St} {H:Hp} (q:Nat->St->Hp->Prop) (O:Nat) (U:q O j H)
 (V:∀m j H,q m j H->c j H λb J=>if b=true then HJ F .mk q m D j J else D.nx j J):GJ c F h D j H:=(q,⟨O,U⟩,V)
theorem IJ {J:TS} {h:MK J} {F:Nat->St->Hp->Prop} {m:Nat} {j:NE} {U:St} {H:Hp}
 (q:J {j with nx:=λO D=>∃m',m' < m/\F m' O D,ct:=λO D=>∃m',m' < m/\F m' O D,bk:=j.nx} U H):HJ J h F m j U H:=(_,λο ο h=>h,q)
section
variable {X:Cx} {pins:!(Addr×Obj)} {σ:!(Option V)} {H:Hp} {s:Shared} {a:Addr}
theorem vC.rewrite {u v:HO} (j:vC X pins σ H s) (e:H a>u) (V:∀b,u≠.own b) (Z:∀xs,u≠.tup xs) (J:∀w,X.H₀ a>w->(∃o D,w=.frz o D)\/(∃xs,w=.tup xs)\/(∃O,w=.tbl O)->False) (new:MC X.prog X.w (upd H a v) s.heap a v):
  vC X pins σ (upd H a v) s where
 ok:=j.ok
 os:=j.os
 bare:=j.bare
 base:=(j.base.keep,j.base.slot,λb o q n a0=>by
   have:=j.base.free b o q n a0;rw[sC (λD=>by rw[D,e] at this;cases this)];show this,j.base.there,
  λb xs q=>by
   let F:b≠a:=λD=>J _ (D ▸ q) (.inr (.inl ⟨_,rfl⟩));rw[sC F];show j.base.tups b xs q,
  λb o D q=>by
   let F:b≠a:=λD=>J _ (D ▸ q) (.inl (_,_,rfl));rw[sC F];show j.base.frzs b o D q,
  λb O q=>by
   let F:b≠a:=λD=>J _ (D ▸ q) (.inr (.inr ⟨_,rfl⟩));rw[sC F];show j.base.tbls b O q)
 loc:=j.loc
 cell:=j.cell
 free:=by rw[sC (Ne.symm (mE e j.free))];show j.free
 freeC:=λx c q=>by
  have:=j.freeC x c q;rw[sC (Ne.symm (mE e this))];show this
 pin:=λp W=>by
  let(a1,U,a2):=j.pin p W;show(a1,by rw[sC (Ne.symm (mE e U))];show U,a2)
 hok:=λb w q=>by
  by_cases F:b=a
  .subst F;rw[HC] at q;cases q;show new
  .rw[sC F] at q;show (j.hok b w q).stay (λο ο ο q=>q) (λc q=>?_) λc xs q=>?_
   .rw[sC (λD=>by rw[D,e] at q;show V _ (bA q))];show q
   .rw[sC (λD=>by rw[D,e] at q;show Z _ (bA q))];show q
 len:=j.len
theorem vC.still {w:HO} (D:vC X pins σ H s) (h:X.H₀ a>w) (F:(∃o j,w=.frz o j)\/(∃xs,w=.tup xs)\/(∃q,w=.tbl q)):(∃o j,H a>(.frz o j))\/(∃xs,H a>(.tup xs))\/(∃q,H a>(.tbl q)):=by
 let(o,j,rfl)||(xs,rfl)||(q,rfl):=F
 .show .inl (o,j,D.base.frzs a o j h)
 .show .inr (.inl ⟨xs,D.base.tups a xs h⟩)
 .let(m,e):=D.base.tbls a q h;show .inr (.inr ⟨_,e⟩)
end
def XI (xs:!V):!Dv:=xs.map .leaf
theorem JW {K:PySem.W.Frag} {H:Hp}:∀(xs:!V),xs.all bE=true->IC K H (XI xs) xs
 |[],_=>by unfold XI IC;rfl
 |x::xs,h=>by
  rw[List.all_cons,cB] at h;change IC K H (.leaf x::XI xs) (x::xs);unfold IC;show(_,_,rfl,by unfold ID;show⟨rfl,h.1⟩,JW xs h.2)
theorem j1 {K:PySem.W.Frag} {H:Hp} {a:Addr} {xs:!V} (h:VC K H a xs) (j:xs.all bE=true):ID K H (.seq true (XI xs)) (.ref a):=by
 unfold ID;show(a,_,rfl,by simpa using h,JW xs j)
theorem YQ:∀(xs:!V),AC (XI xs)=0
 |[]=>by unfold XI;simp[AC]
 |x::xs=>by
  change AC (.leaf x::XI xs)=0;rw[AC,RC,YQ xs];rfl
theorem KW {X:Cx} {K:PySem.W.Frag} (h:X.K=K):YH X (AH K):=h ▸ ND
theorem ZQ {X:Cx} {K:PySem.W.Frag} (h:X.K=K):YH X (OI K):=h ▸ LC
structure iI (K:PySem.W.Frag) (x qual:Str) (st:Stmt) (f:Addr) (fd:FuncData):Prop where
 ex:∃(oc:Value) (od:Option Addr) (dV kV doc pm:Value) (an:Option Addr) (cdv ct:Value) (osl:Array (Option Value)),
  fd=PySem.W.fnOf x qual (uD st) (eD st) (mC st) dV kV doc pm an cdv ct/\K.lookup f>(oc,od,.func fd,osl)/\PySem.W.codeIn K cdv qual=true
 kp:PySem.W.keepIn K (.ref f)=true
section
variable {P:Program} {w:World} {K:PySem.W.Frag} {mg:Str->Option Value} {base:Heap}
theorem iI.okE {x J:Str} {q:Stmt} {f:Addr} {D:FuncData} {N j:!Str} {k:Nat} {sp:Sp} (F:iI K x J q f D) (S:qC N j (mC q)) (len:∀vs H Q E,sp vs H Q E->vs.length=j.length)
  (U:mG P w K mg base J q N k sp):QE P w K mg base (BG P w) (k+1) f D j sp:=by
 let(a4,a5,a2,kV,a3,pm,an,O,a1,a6,rfl,lk,V):=F.ex;show BQ lk V S len λA a0 s H vs Q E W Z=>U f O A a0 s H vs Q E W Z
def JJ (K:PySem.W.Frag) (C:Addr) (m qual:Str) (st:Stmt) (ps:!Str) (dvs:!V):Prop:=∃f fd ds,XG K C m f/\iI K m qual st f fd/\kE K fd ps ds/\zC dvs ds
def KJ (K:PySem.W.Frag) (mg:Str->Option Value) (x:Str) (C:Addr) (qual:Str) (st:Stmt) (ps:!Str) (dvs:!V):Prop:=∃f fd ds,mg x=↑C/\Mk K C f/\iI K "__init__" qual st f fd/\kE K fd ps ds/\zC dvs ds
theorem JJ.have {C:Addr} {m J:Str} {q:Stmt} {N j:!Str} {D:!V} {k:Nat} {sp:Sp} (R:JJ K C m J q j D) (S:qC N j (mC q)) (len:∀vs H Q E,sp vs H Q E->vs.length=j.length)
  (O:mG P w K mg base J q N k sp):SC P w K mg base C m (k+1) j D sp:=
 let ⟨f,fd,ds,hm,F,hb,hd⟩:=R
 (f,fd,ds,hm,hb,hd,F.okE S len O)
theorem KJ.have {C:Addr} {x J:Str} {q:Stmt} {N j:!Str} {D:!V} {k:Nat} {sp:Sp} (R:KJ K mg x C J q j D) (S:qC N j (mC q)) (len:∀vs H Q E,sp vs H Q E->vs.length=j.length)
  (O:mG P w K mg base J q N k sp):YF P w K mg base x C (k+1) j D sp:=
 let ⟨f,fd,ds,hm,M,F,hb,hd⟩:=R
 (f,fd,ds,hm,M,hb,hd,F.okE S len O)
end
def DN (K:PySem.W.Frag):R2:=λx y H Q=>OI K x y H Q\/AH K x y H Q
theorem LW {X:Cx}:YH X (DN X.K):=LC.or ND
section
variable {X:Cx}
end
theorem zC.at {xs:!V} {us:!Value} (r:zC xs us) (m:Nat) (q:m < xs.length) (D:m < us.length):DC xs[m] us[m]:=by
 let(u,j,F):=r.get (cA q);rw[cA D] at j;cases j;show F
theorem J1 {prog:Program} {w:World} {j:Addr} (hd:(j == sysModules)=false):MeetsIn prog w (Builtin.«dict.__len__» ⟨[.ref j],[]⟩) (λο R s=>∃o es ep,s.heap.get? j>o/\o.data=.dict es ep/\R (.ok (.ret (.int es.size s.toks))) {s with toks:=s.toks+1}):=
 .of_wp λA R s ⟨o,es,ep,D,q,h⟩=>by
  change wpAny _ _ (dictSize j >>= _) _ _ s;unfold dictSize;show eA (eA (XB D q (vA ?_)));change wpAny _ _ (Builtin.Dict.pendingCount j >>= _) _ _ s;show eA (wpAny_pendingCount_other hd ?_);show wpAny_ret_mkInt ?_;rw[Nat.add_zero];show h
theorem K1 {prog:Program} {w:World} {A:Around} {E:Value->Shared->Prop} {s:Shared} {j:Addr} {o:Obj} {es:Array DictEntry} {ep:Nat} {Q:Value->Shared->Prop} (hd:(j == sysModules)=false) (D:s.heap.get? j>o) (J:o.cls=.type "dict") (O:o.data=.dict es ep) (U:(es.size:Int) < 2 ^ 63)
  (h:Q (.int es.size (s.toks+1)) {s with toks:=s.toks+1+1}):wpAny (model prog w) A (call (.builtin "len") [.ref j]) Q E s:=by
 let q:s.TypeIs (.ref j) "dict":=(o,D,J)
 show Calls.call_function_entry kind_len plain_len entry_len (args_len1 _) ?_;unfold Builtin.«len»;show eA (m:=oneArg "len" _) (vA ?_);show eA (m:=callSpecial? (.ref j) (Str.ofString "__len__")) (wpAny_callSpecial?_slot (name:=Str.ofString "__len__") q F.slot_dict_len
  (call_meetsIn F.slot_dict_len q F.entry_dict_len (F.args_dict_len_1 _) (J1 hd) (o,es,ep,D,O,?_)))
 change wpAny _ _ _ _ _ {s with toks:=s.toks+1};show eA (zB (vA ?_));show eA (wpAny_letGo ?_);change wpAny _ _ (if ((es.size:Nat):Int) < 0 then _ else _) _ _ _;rw[gA ⋯];change wpAny _ _ (if ((es.size:Nat):Int)>=2 ^ 63 then _ else _) _ _ _;rw[gA ⋯];show eA (wpAny_mkInt (vA (_,rfl,h)))
theorem N1 {X:Cx}:xE X (.builtin "len") (λxs H Q=>∃a j,xs=[V.ref a]/\H a>(.dT j)/\Q (.int j.length) H):=by
 intro a4 s a5 H xs us Q D r h;let(a,j,rfl,J,q):=h;let(u,rfl,a2):=XE r;cases a2;let(a3,hd,xs,a1,o,es,ep,Z,O,U,W,_):=yJ D.hok J;let a0:es.size=j.length:=by
  let F:es.size=xs.length:=by rw[<-rB,W,fA]
  rw[F,<-a1.length]
 show K1 hd Z O.1 U (by rw[MB] at a3;omega) ?_;rw[a0];show(.int j.length,H,D.tok _,⟨_,rfl⟩,q)
theorem MW {α β:Type} {f:α->β}:∀{l:!α} {j:Nat},(l.map f).eraseIdx j=(l.eraseIdx j).map f
 |[],_=>rfl
 |_::_,0=>rfl
 |x::l,j+1=>congrArg (f x::·) (MW (l:=l) (j:=j))
section
variable {prog:Program} {w:World} {K:Type} [DecidableEq K] {knd:HeapKind prog w K} {A:Around} {E:Value->Shared->Prop} {s:Shared}
theorem O1 {D a:Addr} {xs:!(K×Addr×Value)} {k:K} {j:Nat} {p:Addr×Value} {Q:Option DictEntry->Shared->Prop} (W:knd.room A) (V:knd.is s.heap k a) (a6:s.heap.DictOfH knd D xs) (J:xs[j]?>(k,p)) (hsz:xs.length<=sizeLine)
  (a1:∀e h',e.val=p.2->h'.DictOfH knd D (xs.eraseIdx j)->Heap.SameBut D s.heap h'->Q (some e) {s with heap:=h',toks:=s.toks+knd.draws k}):wpAny (model prog w) A (Builtin.Dict.takeOut D (.ref a)) Q E s:=by
 let(o,es,ep,q,a2,hd,F,U,O):=a6;let a3:=size_of_entries F;unfold Builtin.Dict.takeOut
 try with_reducible show zB ?_
 show eA (knd.pyHash W V ?_);show eA (wpAny_dictFind_heap (s:={s with toks:=s.toks+knd.draws k}) W V q hd F U O (λa7=>absurd J (a7 j p)) λj' a9 a4=>?_);let a0:j'=j:=idxH_unique O a4 J;subst a0;show eA (XB (s:={s with toks:=s.toks+knd.draws k}) q hd ?_);let Z:es[j']?>(entryOfKey knd (k,p)):=by rw[entry_at F,J];rfl
 rw[Z];show eA (wpAny_updateDictKeys (hz:=⋯) (s:={s with toks:=s.toks+knd.draws k}) q hd (vA (a1 (entryOfKey knd (k,p)) _ rfl (_,_,ep+1,RB _ q (Obj.isFreed_of_dict (Obj.data_mapDictKeys hd _)),a2.mapDictKeys _,Obj.data_mapDictKeys hd _,?_,?_,?_) (KB ..))))
 .let a5:j' < es.size:=by rw[a3];show (aA.mp J).1
  simp[Array.eraseIdxIfInBounds,a5,F,MW]
 .intro x a8;show knd.keeps (U x ((List.eraseIdx_sublist ..).subset a8)) q hd (KB ..)
 .show O.sublist ((List.eraseIdx_sublist ..).map _)
theorem P1 {q a:Addr}:MeetsIn prog w (Builtin.«dict.pop» ⟨[.ref q,.ref a],[]⟩) (λA R s=>knd.room A.in1/\∃k xs j p,knd.is s.heap k a/\s.heap.DictOfH knd q xs/\xs.length<=sizeLine/\xs[j]?>(k,p)/\
   ∀h',h'.DictOfH knd q (xs.eraseIdx j)->Heap.SameBut q s.heap h'->R (.ok (.ret p.2)) {s with heap:=h',toks:=s.toks+knd.draws k}):=
 .of_wp λA R s ⟨a4,k,xs,j,p,Z,D,hsz,J,h⟩=>by
  unfold Builtin.«dict.pop»;show eA ?_;unfold Builtin.Dict.keyAndDefault;show eA (wpAny_notOrdered_dict D.typeIs ?_);change wpAny _ _ (pure (q,(Value.ref a,none))) _ _ s;show vA ?_;let(o,es,ep,a2,a6,hd,V,a7,a9):=id D;let F:=size_of_entries V;let a1:es.isEmpty=false:=by
   let a8:=(aA.mp J).1;cases U:es.isEmpty with
   |false=>rfl
   |true=>
    rw[Array.isEmpty_iff.mp U] at F;let a5:xs.length=0:=by simpa using F.symm
    omega
  let W:(keyPart (.ref a)).isSome=false:=rfl;simp only[W,aB,GB];show eA (XB a2 hd ?_);show eA (vA ?_);rw[a1];simp only[aB,GB];show eA (O1 a4 Z D J hsz λe h' O a0 a3=>?_);simp only[Option.isNone_some,aB,GB];show eA (wpAny_letGo (vA (e.val,rfl,by rw[O];show h h' a0 a3)))
end
theorem KT.erase {H:Hp}:∀{kvs:!(!Key×V)} {xs:!(!Key×Addr×Value)} (j:Nat),KT H kvs xs->KT H (kvs.eraseIdx j) (xs.eraseIdx j)
 |_,_,_,.nil=>.nil
 |_,_,0,.cons _ t=>t
 |_,_,j+1,.cons r t=>.cons r (KT.erase j t)
theorem KT.find {H:Hp} {k:!Key} {v:V}:∀{kvs:!(!Key×V)} {xs:!(!Key×Addr×Value)},KT H kvs xs->(xs.map (·.1)).Nodup->tD kvs k>v->∃(j:Nat) (p:Addr×Value),xs[j]?>(k,p)/\DC v p.2/\XF kvs k=kvs.eraseIdx j
 |_,_,.nil,_,h=>by cases h
 |kv::kvs,x::xs,.cons r t,hn,h=>by
  let(h1,h2):=JA.mp hn;by_cases c:kv.1=k
  .rw[tN c] at h;show(0,x.2,?_,?_,?_)
   .change some x>(k,x.2);rw[<-c,r.1]
   .cases h;show r.2.2
   .let hk:∀y∈kvs,y.1≠k:=λy hy e=>by
     let hx:k∈xs.map (·.1):=by
      have:xs.map (·.1)=kvs.map (·.1):=by
       let aux:∀{a:!(!Key×V)} {b:!(!Key×Addr×Value)},KT H a b->b.map (·.1)=a.map (·.1):=λq=>by
        induction q with
        |nil=>rfl
        |cons r _ ih=>rw[AA,AA,ih,r.1]
       show aux t
      rw[this];show jB.mpr (y,hy,e)
     show h1 (by change x.1∈_;rw[<-r.1,c];show hx)
    change (kv::kvs).filter _=kvs;rw[List.filter_cons,gA (by simp[c]),List.filter_eq_self.mpr λy hy=>by simpa using hk y hy]
  .rw[jM c] at h;let(j,p,e1,e2,e3):=KT.find t h2 h;show(j+1,p,by simpa using e1,e2,?_);change (kv::kvs).filter _=kv::kvs.eraseIdx j;rw[List.filter_cons,iA (by simp[c]),<-e3]
   rfl
theorem NK {X:Cx} {Z:!(Addr×Obj)} {a1:St} {H:Hp} {s:Shared} {a b:Addr} {D:!(!Key×V)} {k:!Key} {A:Around} {E:Value->Shared->Prop} {v:V} {Q:Value->Shared->Prop} (ac:A.units+1 < cLine) (J:vC X Z a1 H s) (e:H a>(.dT D)) (a3:H b>(.tup (k.map kV))) (l:tD D k>v)
  (h:∀a0 s',vC X Z a1 (upd H a (.dT (XF D k))) s'->DC v a0->Q a0 s'):wpAny (model X.prog X.w) A (call (.builtin "dict.pop") [.ref a,.ref b]) Q E s:=by
 let(F,hd,xs,O,dd):=yJ J.hok e;let hz:xs.length<=sizeLine:=by rw[<-Paired.length O];show F
 let aa:(xs.map (·.1)).Nodup:=let ⟨_,_,_,_,_,_,_,_,q⟩:=dd;q
 let(j,p,a9,ad,a4):=KT.find O aa l;show call_meetsIn PySem.F.slot_dict_pop dd.typeIs PySem.F.entry_dict_pop (PySem.F.args_dict_pop_2 _ _) (P1 (knd:=tupleKind (aD X.prog X.w))) (tupleKind_room_in1 ac,k,xs,j,p,vN J.hok a3,dd,hz,a9,λh' a2 ab=>h _ _ ?_ ad);let(q,es,ep,W,a5,a6,a7,_,a8):=a2;show wN J (by rw[e];show True.intro) ab ⟨q,W⟩ (?_,hd,_,KT.keeps (a4 ▸ KT.erase j O) λc ae U=>?_,q,es,ep,W,a5,a6,a7,a8)
 .show kB (QZ D k) F
 .rw[sC (HD U e nofun)];show U
def jI (td ty:TE):TE:=λσ H Q=>td σ H λx H1=>∃a,x=.ref a/\LQ H1 a/\ty σ H1 λy H2=>∃kvs k v b,H2 a>(.dT kvs)/\y=.ref b/\H2 b>(.tup (k.map kV))/\tD kvs k>v/\Q v (upd H2 a (.dT (XF kvs k)))
theorem Q1 {X:Cx} {o e:Expr} {q D:Pos} {J ty:TE} (a6:X.A.units+1 < cLine) (a5:PE X o J) (a4:PE X e ty) (m:M1 X o "pop" q e D):PE X (.Call (.Attribute o "pop" q) [e] [] D) (jI J ty):=by
 intro F s O H Q V h;show wpAny_Call_method m.base m.few m.line PySem.F.plainAttrs_dict PySem.F.slot_dict_pop PySem.F.type_dict_pop (cD (a5 F s O H _ V h) λu s1 ae=>?_);let(x,U,j,aa,a,ex,a0,a7):=ae;subst ex;obtain rfl:u=Value.ref a:=aa;let(ac,ad,_):=tW j a0;show(ac,ad,?_);rw[m.trees];show Calls.callWith_builtin rfl (Calls.evalArgs_plain (Calls.spliced_cons (cD (a4 F s1 O U _ j a7) λag ai ⟨y,af,W,ab,ah,k,v,b,a1,a3,a2,l,a8⟩=>Calls.spliced_nil ?_)));subst a3;cases ab;show NK a6 W a1 a2 l λak aj Z a9=>(v,_,Z,a9,a8)
def dF (h:Heap) (d:Addr) (es:Array DictEntry) (ep:Nat):Prop:=∃o,h.get? d>o/\o.ExactDict/\o.data=.dict es ep
theorem dF.ty {s:Shared} {d:Addr} {es:Array DictEntry} {ep:Nat} (r:dF s.heap d es ep):s.TypeIs (.ref d) "dict":=let ⟨o,ho,hc,_⟩:=r;(o,ho,hc.1)
theorem dF.lt {h:Heap} {d:Addr} {es:Array DictEntry} {ep:Nat} (r:dF h d es ep):d < h.objs.size:=let ⟨_,ho,_⟩:=r;EA ho
theorem dF.kept {h h':Heap} {d:Addr} {es:Array DictEntry} {ep:Nat} (r:dF h d es ep) (k:∀o,h.get? d>o->h'.get? d>o):dF h' d es ep:=let ⟨o,ho,q⟩:=r;(o,k _ ho,q)
section
variable {prog:Program} {w:World} {A:Around} {E:Value->Shared->Prop} {s:Shared} {d it:Addr} {es:Array DictEntry} {ep i:Nat}
theorem NW {Q:Value->Shared->Prop} (F:(d == sysModules)=false) (r:dF s.heap d es ep)
  (q:Q (.ref s.heap.objs.size) {s with heap:=s.heap.push {cls:=.type "dict_keyiterator",data:=.fields #[.ref d,.int 0 0,.int es.size 0,.int ep 0]}}):wpAny (model prog w) A (pyIter (.ref d)) Q E s:=by
 let(o,j,J,D):=id r;show wpAny_pyIter_slot r.ty PySem.F.slot_dict_iter (wpAny_call_entry PySem.F.slot_dict_iter r.ty PySem.F.entry_dict_iter ?_ (PySem.F.args_dict_iter_1 _));unfold Builtin.«dict.__iter__» Builtin.Dict.dictSlotNone Builtin.Dict.showsAll;show eA (eA (wpAny_notOrdered_dict r.ty (vA ?_)));show eA (m:=if d == sysModules then _ else _) ?_;rw[gA (by rw[F];show lA)];show vA (eA (XB j D (eA (wpAny_dictEpoch j D ?_))));show eA (wpAny_newObj_type (vA (_,rfl,"dict_keyiterator",_,(_,HA _ rfl,rfl),PySem.F.slot_dict_keyiterator_next.lookup,by simpa[rawInt] using q)))
theorem OW {Q:Option Value->Shared->Prop} (t:s.heap.IsKeyIter it d i es.size ep) (r:dF s.heap d es ep) (V:i < es.size)
  (q:∀h',h'.IsKeyIter it d (i+1) es.size ep->Heap.SameBut it s.heap h'->Q (some es[i].key) {s with heap:=h'}):wpAny (model prog w) A (pyNext (.ref it)) Q E s:=by
 let(b,D,U,j):=id t;let(o,F,W,J):=id r;unfold pyNext;show eA (wpAny_attempt (wpAny_callSpecial?_slot (name:=Str.ofString "__next__") t.typeIs PySem.F.slot_dict_keyiterator_next (wpAny_call_entry PySem.F.slot_dict_keyiterator_next t.typeIs PySem.F.entry_dict_keyiterator_next ?_ (PySem.F.args_dict_keyiterator_next_1 _))));show eA (vA (eA (eA (eA (VB t.typeIs (vA (eA (wpAny_fieldsOf D j ?_))))))));simp only[show Builtin.Dict_items.ownsTuple "dict_keyiterator"=false by decide,aB,GB];change wpAny _ _ (if (Value.ref d == Value.none)=true then _ else _) _ _ s;rw[gA (show ¬((Value.ref d == Value.none)=true) from lA)];show eA (vA (eA (XB F J ?_)));rw[gA (by simp)];show eA (vA (eA (wpAny_dictEpoch F J ?_)));rw[gA (by simp)];show vA ?_;simp only[show ¬((i:Int) < 0) from by omega,GB,gB,Array.getElem?_eq_getElem V];show eA (eA (VB t.typeIs (vA (eA (wpAny_isOneOf_keyiter t.typeIs ?_)))));change wpAny _ _ (setField (.ref it) 1 (rawInt ((i:Int)+1)) >>= _) _ _ s;show eA (wpAny_setField D j (by simp) ?_);let O:(s.heap.update it (Obj.mapFields (·.setIfInBounds 1 (rawInt ((i:Int)+1))))).IsKeyIter it d (i+1) es.size ep:=(_,RB _ D (Obj.isFreed_of_fields (Obj.data_mapFields j _)),(Obj.cls_mapFields ..).trans U,by rw[Obj.data_mapFields j];simp[rawInt])
 show eA (zB (eA (wpAny_isOneOf_keyiter (s:={s with heap:=s.heap.update it (Obj.mapFields (·.setIfInBounds 1 (rawInt ((i:Int)+1))))}) O.typeIs ?_)));change wpAny _ _ (pure es[i].key) _ _ _;show vA (vA (_,rfl,vA (q _ O (KB ..))))
theorem QW {Q:Option Value->Shared->Prop} (hh:A.handled=none) (t:s.heap.IsKeyIter it d es.size es.size ep) (r:dF s.heap d es ep)
  (q:∀h',Heap.ExtBut it s.heap h'->Q none {s with heap:=h'}):wpAny (model prog w) A (pyNext (.ref it)) Q E s:=by
 let(b,j,O,D):=id t;let(o,F,U,J):=id r;unfold pyNext;show eA (wpAny_attempt (wpAny_callSpecial?_slot (name:=Str.ofString "__next__") t.typeIs PySem.F.slot_dict_keyiterator_next (wpAny_call_entry PySem.F.slot_dict_keyiterator_next t.typeIs PySem.F.entry_dict_keyiterator_next ?_ (PySem.F.args_dict_keyiterator_next_1 _))));show eA (vA (eA (eA (eA (VB t.typeIs (vA (eA (wpAny_fieldsOf j D ?_))))))));simp only[show Builtin.Dict_items.ownsTuple "dict_keyiterator"=false by decide,aB,GB];change wpAny _ _ (if (Value.ref d == Value.none)=true then _ else _) _ _ s;rw[gA (show ¬((Value.ref d == Value.none)=true) from lA)];show eA (vA (eA (XB F J ?_)));rw[gA (by simp)];show eA (vA (eA (wpAny_dictEpoch F J ?_)));rw[gA (by simp)];show vA ?_;simp only[show ¬((es.size:Int) < 0) from by omega,GB,gB,Array.getElem?_eq_none (pA es.size)];show eA (eA (VB t.typeIs (vA ?_)));change wpAny _ _ (setField (.ref it) 0 .none >>= _) _ _ s;show eA (wpAny_setField j D (by simp) ?_);change wpAny _ _ (newExc (.type "StopIteration") [] >>= _) _ _ _;show eA ?_;simp only[newExc,newTuple];show eA (wpAny_newObj_type (eA (m:=firstArgMember _ _) (wpAny_of_eq (a:=Value.none) (by first|rfl|(simp only[firstArgMember];rfl)) (wpAny_newObj_type ?_ (by size_fits)))) (by size_fits));simp only[raiseNew];show eA (wpAny_handled ?_);rw[show A.in1.handled=none from hh];show eA (vA (wpAny_throw ?_));show eA (m:=isInstance _ _) (wpAny_isInstance (b:=true) (T:="StopIteration") (_,HA _ rfl,rfl) isSubtype_stop ?_);show vA (q _ (((KB ..).extBut.push _).push _))
theorem R1 (hh:A.handled=none) (j:Addr) (ne:d≠j):Walks prog w A j [j,d] [j] es.size (λi v=>∃h:i < es.size,v=es[i].key) (λi h=>h.IsKeyIter j d i es.size ep/\dF h d es ep) where
 sub:=λb D=>xA.mpr (.inl (nA.mp D))
 frame:=λο ο ο x k=>⟨x.1.at λo e=>k j (wA ..) o e,x.2.kept λo e=>k d (kA _ (wA ..)) o e⟩
 item:=λi s Q E J x q=>OW x.1 x.2 J λh' V O=>q _ h' s.toks ⟨J,rfl⟩ ⟨V,x.2.kept λo e=>(O.2 d ne).trans e⟩ λb o D e=>(O.2 b λF=>D (nA.mpr F)).trans e
 done:=λs Q E x q=>QW hh x.1 x.2 λh' U=>q h' s.toks λb o D e=>U b o (λF=>D (nA.mpr F)) e
 self:=λο ο ο ο x q=>wpAny_pyIter_keyiter x.1 q
theorem T1 (j:(d == sysModules)=false):PySem.W.KdlSrc prog w "dict" d d es.size (λi v=>∃h:i < es.size,v=es[i].key) (λh=>dF h d es ep) where
 type:=λο r=>r.ty
 there:=λο r=>⟨r.lt,r.lt⟩
 keep:=λο ο r k=>r.kept λo e=>k d (.inl rfl) o e
 notList:=by decide
 notTuple:=by decide
 hint:=λο ο ο ο r q=>PySem.W.kdl_hint_dict r.ty q
 iter:=λο ο hh r=>(_,_,(λο ο q=>NW j r q),R1 hh _ (SA r.lt),⟨(_,HA _ rfl,rfl,rfl),r.kept λo e=>uA _ e⟩)
end
def GG (H:Hp) (ks:!(!Key)) (vs:!V):Prop:=Paired (λk v=>∃a,v=V.ref a/\H a>(.tup (k.map kV))) ks vs
section
variable {X:Cx}
end
def kI (tk tv:TE):TE:=λσ H Q=>∀p,H p=none->tk σ (upd H p (.dT [])) λx H1=>tv σ H1 λy H2=>H2 p>(.dT [])/\∃b k,x=.ref b/\H2 b>(.tup (k.map kV))/\Q (.ref p) (upd H2 p (.dT [(k,y)]))
theorem U1 {X:Cx} {U:Pos} {k v:Expr} {a0 a1:TE} (am:X.A.units+1 < cLine) (ab:PE X k a0) (ae:PE X v a1):PE X (.Dict [some k] [v] U) (kI a0 a1):=by
 intro Z s a2 H Q D q;let ac:=D.hok.fresh (pA s.heap.objs.size);let a4:=D.laid (a:=s.heap.objs.size) (o:=.dT []) (h':=s.heap.push {cls:=.type "dict",data:=.dict #[]}) (t':=s.toks) (λο ο q=>uA _ q) (pA _) (rW s.heap D.big);rw[arm_eval_Dict,zip_pairTrees [some k] [v] X.env U rfl rfl,dictDisplay_pairs (pairTrees [some k] [v] X.env U) (by intro j;cases j) (by change (1:Nat) < 17;decide)];show eA (wpAny_standAt (eA ?_));unfold subDict;show eA (wpAny_alloc ?_);show eA (zB ?_);rw[iA (by change (1:Nat)<=15;decide)];show eA (pairTrees_cons_walk (cD (ab Z _ a2 _ _ a4 (q _ ac)) λu s1 ⟨x,a3,a5,ai,af⟩=>cD (ae Z s1 a2 a3 _ a5 af) λak ao ⟨y,al,F,aj,O,b,W,ex,J,ag⟩=>pairTrees_nil_walk ?_));subst ex;cases (show u=Value.ref b from ai);show zB ?_;let(j,hd,xs,ah,dd):=yJ F.hok O;cases ah;rw[List.forIn_cons];dsimp only;show eA (eA (eA (wpAny_dictSet_heap (hsz:=by rw[MB];show LB _) (show (tupleKind (aD X.prog X.w)).room X.A from (by omega:X.A.units < cLine)) (vN F.hok J) dd λh' a6 ad=>vA ?_)));dsimp only;rw[List.forIn_nil];show vA (vA ?_);let(o,es,ep,V,a7,a8,a9,_,aa):=a6;show vA (vA (.ref s.heap.objs.size,_,wN (ob:=.dT [(W,y)]) F (by rw[O];show True.intro) ad ⟨o,V⟩ (by rw[MB];change (1:Nat)<=_;decide,hd,[(W,(b,ak))],.cons (rfl,by rw[sC (HD J O nofun)];show J,aj) .nil,o,es,ep,V,a7,a8,a9,aa),rfl,ag))
section
variable {prog:Program} {w:World} {A:Around} {E:Value->Shared->Prop} {s:Shared}
end
def aG (i:Nat):TE:=λσ H Q=>match σ[i]? with
 |some (some v)=>Q v H
 |_=>False
set_option tactic.hygienic true in
theorem V1 {i:Nat} {σ:St} {H:Hp} {Q:VK} (h:aG i σ H Q):sK i σ H Q:=by
 unfold aG at h
 split at h
 .rename_i v e;show(v,e,h)
 .show h.elim
theorem lC {X:Cx} (i:Nat) {x:Str} {O:Pos} (q:X.N[i]?>x:=by rfl) (F:sQ X.env.scope x:=by first|exact Or.inl rfl|exact Or.inr (Or.inl rfl)|exact Or.inr (Or.inr rfl)) (hd:(x == ("__debug__":Str))=false:=by decide)
 (D:(x == ("__classdict__":Str))=false:=by decide):PE X (.Name x O) (aG i):=λJ s U H Q j h=>tK q F hd D J s U H Q j (V1 h)
theorem OK {g:Int->Int->V} {i j:Int} {H:Hp} {Q:VK}:oJ g (.int i) (.int j) H Q=Q (g i j) H:=propext ⟨λ⟨_,_,q,D,h⟩=>by cases q;cases D;show h,λh=>(_,_,rfl,rfl,h)⟩
theorem EN {C:Int->Int->Prop} {g:Int->Int->V} {i j:Int} {H:Hp} {Q:VK}:rI C g (.int i) (.int j) H Q=(C i j/\Q (g i j) H):=propext ⟨λ⟨_,_,q,D,h⟩=>by cases q;cases D;show h,λh=>(_,_,rfl,rfl,h)⟩
theorem PK {c:Int} {P:Int->Prop}:(∃i,V.int c=V.int i/\P i)=P c:=propext ⟨λ⟨_,e,h⟩=>by cases e;show h,λh=>(_,rfl,h)⟩
theorem FN {c:Bool} {P:Bool->Prop}:(∃i,V.bl c=V.bl i/\P i)=P c:=propext ⟨λ⟨_,e,h⟩=>by cases e;show h,λh=>(_,rfl,h)⟩
theorem QK {c:Addr} {P:Addr->Prop}:(∃i,V.ref c=V.ref i/\P i)=P c:=propext ⟨λ⟨_,e,h⟩=>by cases e;show h,λh=>(_,rfl,h)⟩
section
open PySem.Builtin PySem.Builtin.Str
end
structure mH (k:Nat) (A:Around):Prop where
 dp:A.depth+3 * k+5 < recursionLimit
 un:A.units+16 * k+200 < cLine
theorem FD.h {k:Nat} {A:Around} (r:FD k A):mH k A:=⟨r.dp,r.un⟩
theorem mH.deeper {k:Nat} {A:Around} (r:mH (k+1) A) (j:Env):mH k (A.deeper j):=
 ⟨by have:=r.dp;change A.depth+1+3 * k+5 < _;omega,by have:=r.un;change A.units+3+16 * k+200 < _;omega⟩
def JN (P:Program) (w:World) (K:PySem.W.Frag) (mg:Str->Option Value) (base:Heap) (N:!Str) (qual:Str) (scope:Scope) (f:Addr) (cd:Value) (A:Around) (outer:!Env) (s:Shared) (H:Hp) (E:XK):Cx:=
 {fE (BG P w) P w K mg base N qual scope f cd A outer s H E with calm:=false}
theorem N2 {P:Program} {w:World} {K:PySem.W.Frag} {mg:Str->Option Value} {base:Heap} {N:!Str} {D:Str} {F:Scope} {f:Addr} {j:Value} {A:Around} {q:!Env} {s:Shared} {H:Hp} {E:XK}:(JN P w K mg base N D F f j A q s H E).K=K:=rfl
def nI (K:PySem.W.Frag) (fd:FuncData) (ps ks:!Str):Prop:=∀(s:Shared) (us:!Value) (a b:Value),K.In s.heap->us.length+2=ps.length->BindsTo s fd ⟨us,ks.zip [a,b]⟩ (ps.zip (us++[b,a]))
def LJ (K:PySem.W.Frag) (C:Addr) (m qual:Str) (st:Stmt) (ps ks:!Str):Prop:=∃f fd,XG K C m f/\iI K m qual st f fd/\nI K fd ps ks
def RK (P:Program) (w:World) (K:PySem.W.Frag) (mg:Str->Option Value) (base:Heap) (C:Addr) (m:Str) (k:Nat) (ps ks:!Str) (sp:Sp):Prop:=
 ∃f fd,XG K C m f/\nI K fd ps ks/\QE P w K mg base (BG P w) k f fd ps sp
theorem LJ.have {P:Program} {w:World} {K:PySem.W.Frag} {mg:Str->Option Value} {base:Heap} {C:Addr} {m D:Str} {q:Stmt} {N j ks:!Str} {k:Nat} {sp:Sp} (R:LJ K C m D q j ks) (S:qC N j (mC q)) (len:∀vs H Q E,sp vs H Q E->vs.length=j.length)
  (J:mG P w K mg base D q N k sp):RK P w K mg base C m (k+1) j ks sp:=
 let ⟨f,fd,hm,F,hb⟩:=R
 (f,fd,hm,hb,F.okE S len J)
def MJ (K:PySem.W.Frag) (D:Addr) (tb:XKs->TS) (to th:TS):TS:=λDn σ H=>
 tb (λcls σ' H'=>∃C,cls=.ref C/\UI K C D/\th Dn σ' H') {Dn with nx:=to Dn} σ H
theorem O2 {X:Cx} {x:Str} {a4:Addr} {ag al:!Stmt} {a6:Stmt} {a9:!Stmt} {rest:!ExceptHandler} {ak aj ba:Pos} {ao:XKs->TS} {to aa:TS}
  (c:XH X.K X.mg x a4)
  (az:∀(E':Value->Shared->Prop) (pn:!(Addr×Obj)) (af:XKs),PassesOwn (model X.prog X.w) X.A X.env E'->XW {X with xe:=E',pn:=pn} af->SF {X with xe:=E',pn:=pn} ag (ao af))
  (b3:SF X al to) (hh:∀U:Addr,SF {X with A:=X.A.mark (↑U),calm:=false,xe:=λο ο=>False} (a6::a9) aa)
  (b2:Gl X x:=by rfl) (b7:X.stack=X.env::X.outer:=by rfl) (b1:X.env.frame>X.env.locals:=by rfl) (hd:(x == ("__debug__":Str))=false:=by decide):
  PS X (.Try ag (.ExceptHandler (some (.Name x ak)) none (a6::a9) aj::rest) al [] ba) (MJ X.K a4 ao to aa):=by
 intro O s bh H Dn F h;show wpAny_Try_except ?_;let bg:XW {X with xe:=(λe bc=>wpAny (model X.prog X.w) X.A (noteFrame e X.env) (λο bd=>wpAny (model X.prog X.w) X.A (setFlight e none) (λο be=>
   wpAny (model X.prog X.w) X.A (handleBy e X.env (.ExceptHandler (some (.Name x ak)) none (a6::a9) aj::rest)) (SP X O Dn) X.xe be) X.xe bd) X.xe bc),pn:=X.pn++O}
   (λcls j D=>∃C,cls=.ref C/\UI X.K C a4/\aa Dn j D):=by
  intro bm a3 ac am s' U cls D B ar b9 av un b6 a2 a8;let(C,rfl,b8,a8):=a8;let a5:vC X O a3 ac am:=ar.unre F.ok;let ad:vC X O a3 D s':=a5.call' (s':=s') (ch:=[]) b9 un b6 av (λb ab=>absurd ab (by simp));let a2:mP B X.stack am.heap ac D s'.heap U (.ref C):=a2;let(a0,ah):=id a2.fl;let ai:=F.ok.frames;rw[b7] at ai ah;change wpAny (model X.prog X.w) X.A (noteFrame (.ref U) X.env) _ X.xe s';show wpAny_looks_onW ai b1 ah λbi b0 ap=>?_;show wpAny_landsW b0 λax a7 aq=>?_;let ae:vC X O a3 D {s' with heap:=ax}:=vC.flown a5 ad a2 a7.1 (ap.trans aq);let(bl,bn,b5,b4,bj,_):=a7.first;show wpAny_handleBy_cons (codeAny_handlers_test (cP (X:={X with A:=X.A.mark (↑U),calm:=false,xe:=λο ο=>False}) (ae.marked (v:=↑U)) b2 c.m ?_ hd)) (by intro q;cases q);show o0 (x:=x) (mg:=X.mg) ae.kIn c b8 b5 b4 ?_;show codeAny_handlers_suite ?_;show lands_againW a7 λay aw bf=>?_;let au:vC X O a3 D {s' with heap:=ay}:=vC.flown a5 ad a2 aw.1 ((ap.trans aq).trans bf);show FB (hh U O _ _ _ _ (au.marked (v:=↑U)) a8) (λf bb J=>?_) (λο ο ab=>ab.elim);change SP X O Dn f bb;cases f with
  |next=>let(j,V,Z,q):=J;show(j,V,Z.unmarked F.ok,q)
  |brk=>let(j,V,Z,q):=J;show(j,V,Z.unmarked F.ok,q)
  |cont=>let(j,V,Z,q):=J;show(j,V,Z.unmarked F.ok,q)
  |ret u=>let(v,j,V,Z,r,q):=J;show(v,j,V,Z.unmarked F.ok,r,q)
 let q:=az _ (X.pn++O) _ PassesOwn.looking bg [] s bh H {Dn with nx:=to Dn} F.re h;show FB q (λf s1 J=>?_) (λe s1 J=>J);cases f with
 |next=>
  let(j,D,W,a1):=J;show b3 O s1 j D Dn (W.unre F.ok) a1
 |brk=>let(j,D,W,a1):=J;show(j,D,W.unre F.ok,a1)
 |cont=>let(j,D,W,a1):=J;show(j,D,W.unre F.ok,a1)
 |ret u=>let(v,j,D,W,r,a1):=J;show(v,j,D,W.unre F.ok,r,a1)
section
variable {prog:Program} {w:World} {A:Around} {E:Value->Shared->Prop} {s:Shared}
end
section
variable {X:Cx}
end
section
variable {prog:Program} {w:World} {A:Around} {E:Value->Shared->Prop} {s:Shared}
end
section
variable {X:Cx}
end
section
variable {X:Cx} {pins:!(Addr×Obj)} {σ:!(Option V)} {H:Hp} {s:Shared} {a:Addr}
theorem vC.freezeT {F:!(!Key×V)} (D:vC X pins σ H s) (e:H a>(.dT F)):∃o,s.heap.get? a>o/\vC X pins σ (upd H a (.frz o (.dT F))) s:=by
 let(j,hd,xs,W,o,es,ep,J,r):=yJ D.hok e;let U:MC X.prog X.w (upd H a (.frz o (.dT F))) s.heap a (.dT F):=(D.hok a _ e).stay (λο ο ο q=>q) (λc q=>by rw[sC (λj=>by rw[j,e] at q;cases q)];show q) (λc xs q=>by rw[sC (λj=>by rw[j,e] at q;cases q)];show q);show(o,J,D.rewrite e (λο j=>by cases j) (λο j=>by cases j) (λw O h=>?_) ⟨J,U⟩);let(_,_,q)||(_,q)||(_,q):=D.still O h<;>(rw[e] at q;cases q)
theorem vC.thawT {F:!(!Key×V)} {o:Obj} (D:vC X pins σ H s) (e:H a>(.frz o (.dT F))) (O:∀o u,X.H₀ a≠some (.frz o u)):vC X pins σ (upd H a (.dT F)) s:=by
 let ok:MC X.prog X.w H s.heap a (.dT F):=(D.hok a _ e).2;let W:MC X.prog X.w (upd H a (.dT F)) s.heap a (.dT F):=ok.stay (λο ο ο q=>q) (λc q=>by rw[sC (λj=>by rw[j,e] at q;cases q)];show q) (λc xs q=>by rw[sC (λj=>by rw[j,e] at q;cases q)];show q);show D.rewrite e (λο j=>by cases j) (λο j=>by cases j) (λw J h=>?_) W;let(_,_,rfl)||h:=h
 .show O _ _ J
 .let(Z,a0,q)||(_,q)||(_,q):=D.still J (.inr h)
  .let(xs,rfl)||(U,rfl):=h
   .have:=D.base.tups a xs J;rw[e] at this;cases this
   .let(m,this):=D.base.tbls a U J;rw[e] at this;cases this
  .rw[e] at q;cases q
  .rw[e] at q;cases q
end
def zE (a:Addr) (H:Hp):Hp:=match H a with
 |some (.frz _ (.dT kvs))=>upd H a (.dT kvs)
 |_=>H
theorem P2 {a:Addr} {H:Hp} {o:Obj} {j:!(!Key×V)} (h:H a>(.frz o (.dT j))):zE a H=upd H a (.dT j):=by unfold zE;rw[h]
set_option tactic.hygienic true in
theorem vC.thawedT {X:Cx} {pins:!(Addr×Obj)} {σ:!(Option V)} {H:Hp} {s:Shared} {a:Addr} (I:vC X pins σ H s) (h0:∀o u,X.H₀ a≠some (.frz o u)):vC X pins σ (zE a H) s:=by
 unfold zE
 split
 .rename_i h;show I.thawT h h0
 .show I
def gH (a:Addr) (D:NE):NE:={D with nx:=λσ H=>D.nx σ (zE a H),bk:=λσ H=>D.bk σ (zE a H),ct:=λσ H=>D.ct σ (zE a H),rt:=λv H=>D.rt v (zE a H)}
def SK (X:Cx) (t:TS):TS:=λD σ H=>∃a,(∀o u,X.H₀ a≠some (.frz o u))/\t (gH a D) σ H
theorem Q2 {X:Cx} {O:Stmt} {t:TS} (h:PS X O t):PS X O (SK X t):=by
 intro W s Z H U V hh;let(a,F,hh):=hh;show FB (h W s Z H (gH a U) V hh) (λf s' q=>?_) λο ο e=>e;unfold SP at q ⊢;cases f with
 |next=>let(D,J,j,q):=q;show(D,_,j.thawedT F,q)
 |brk=>let(D,J,j,q):=q;show(D,_,j.thawedT F,q)
 |cont=>let(D,J,j,q):=q;show(D,_,j.thawedT F,q)
 |ret u=>let(v,D,J,j,r,q):=q;show(v,D,_,j.thawedT F,r,q)
def TK (a:Addr) (o:Obj) (kvs:!(!Key×V)):It:=
 (λi H=>H a>(.frz o (.dT kvs))/\i < kvs.length,λi H x H'=>H'=H/\∃k v b,kvs[i]?>(k,v)/\x=.ref b/\H b>(.tup (k.map kV)),λi H=>H a>(.frz o (.dT kvs))/\i=kvs.length)
theorem NJ {H:Hp}:∀{kvs:!(!Key×V)} {ys:!(!Key×Addr×Value)},KT H kvs ys->∀(i:Nat) {y:!Key×Addr×Value},ys[i]?>y->∃k v,kvs[i]?>(k,v)/\H y.2.1>(.tup (k.map kV))
 |_,_,.nil,i,y,h=>by simp at h
 |_,_,.cons (a:=p) r t,0,y,h=>by
  let h:=bA h;subst h;show(p.1,p.2,rfl,r.2.1)
 |_,_,.cons r t,i+1,y,h=>NJ t i h
theorem dR {X:Cx} {a4:!(Addr×Obj)} {a6:!(Option V)} {H:Hp} {s:Shared} {a:Addr} {o:Obj} {q:!(!Key×V)} {ep:Nat} {es:Array DictEntry} (D:vC X a4 a6 H s) (e:H a>(.frz o (.dT q))) (hd:o.data=.dict es ep):
  dF s.heap a es ep/\(a == sysModules)=false/\es.size=q.length/\∀i (h:i < es.size),∃k v b,q[i]?>(k,v)/\es[i].key=.ref b/\H b>(.tup (k.map kV)):=by
 let U:=(D.hok a _ e).1;let(ab,a3,a5,W,aa,a8,a7,F,Z,J,O,_):=KQ D.hok (.inr ⟨o,e⟩);rw[U] at F;cases F;rw[hd] at J;cases J;let hsz:=size_of_entries O;let a9:=Paired.length W;show((o,U,Z,hd),a3,⋯,λi a2=>?_);let j:=entry_at O i;rw[Array.getElem?_eq_getElem a2,cA ⋯] at j;let j:=bA j;let(k,v,a0,a1):=NJ W i (cA (show i < a5.length by omega));show(k,v,_,a0,by rw[j];rfl,a1)
theorem U2 {P:Program} {w:World} {K:PySem.W.Frag} {al:Expr} (a it:Addr) (o:Obj) (aj:!(!Key×V)) (ep:Nat) {es:Array DictEntry} (a7:o.data=.dict es ep):VG P w K al (TK a o aj) [it] it (λi h=>h.IsKeyIter it a i es.size ep) where
 mem:=by simp
 obj:=λi h q b j=>by
  let e:b=it:=by simpa using j
  subst e;let(o,e,c,O):=q;show(o,e,λv ab=>by rw[O] at ab;cases ab)
 keep:=λi h h' q k=>q.at λo e=>k it (by simp) o e
 item:=by
  intro X a3 a4 a2 a6 i a9 s ac H E F J q D;subst a3 a4 a2;let(D,ag):=D;let(raw,_,hsz,a5):=dR F D a7;let(U,W,af,Z,a0,a1):=J it (by simp);let a8:i < es.size:=⋯;let(k,v,b,ah,ai,j):=a5 i a8;show OW q raw a8 λh' aa ak=>?_;let ad:vC X a9 ac H {s with heap:=h'}:=F.turned (t':=s.toks) (λb o j e=>(ak.2 b j).trans e) U W Z a0 a1;let(ob,e,c,O):=id aa;show(_,rfl,vQ (s:={s with heap:=h'}) e c O (by decide) (.ref b,H,ad,by rw[ai];rfl,(rfl,k,v,b,ah,rfl,j),aa,λb j=>(J b j).1))
 done:=by
  intro X a3 a4 a2 a6 i a9 s ac H E F J q D;subst a3 a4 a2;let(D,ag):=D;let(raw,_,hsz,a5):=dR F D a7;let(U,W,af,Z,a0,a1):=J it (by simp);obtain rfl:i=es.size:=⋯;show QW (F.ok.hd a6) q raw λh' ae=>⟨rfl,F.turned (t':=s.toks) (λb o j e=>ae b o j e) U W Z a0 a1⟩
 self:=λο ο ο ο ο q h=>wpAny_pyIter_keyiter q h
def oI (tl:TE):TI:=λσ H R=>tl σ H λx H1=>∃a kvs,x=.ref a/\H1 a>(.dT kvs)/\∀o,R (TK a o kvs) (upd H1 a (.frz o (.dT kvs)))
theorem V2 {X:Cx} {a7 l:Expr} {W:TE} (a2:PE X l W):PI X a7 l (oI W):=by
 intro a4 s a9 H R Z h;show cD (a2 a4 s a9 H _ Z h) λv s1 a8=>?_;let(x,F,J,a6,a5):=a8;let(a,D,e,V,q):=a5;subst e;cases a6;let(o,a3,j):=J.freezeT V;let(_,_,vs,ab,aa,es,ep,U,c,O,r):=yJ J.hok V;rw[a3] at U;cases U;let(raw,hd,hsz,_):=dR j HC O;show NW hd raw ?_;let a1:upd F a (.frz o (.dT D)) s1.heap.objs.size=none:=j.hok.fresh (pA _);show(s1.heap.objs.size,[s1.heap.objs.size],_,_,upd F a (.frz o (.dT D)),rfl,j.kept (t':=s1.toks) λb o e=>uA _ e,U2 a _ o D ep O,(_,HA _ rfl,rfl,rfl),λb a0=>?_,q o);let e:b=s1.heap.objs.size:=by simpa using a0
 subst e;show j.fpOk (pA _) a1
section
open PySem.W
def YD (lt:Nat->Nat->Bool) {α:Type}:KasT α->α
 |.ret a=>a
 |.ask i j k=>YD lt (k (lt i j))
theorem pM (lt:Nat->Nat->Bool) {α β:Type} (f:α->KasT β):∀t:KasT α,YD lt (t.bind f)=YD lt (f (YD lt t))
 |.ret a=>by simp only[KasT.bind,YD]
 |.ask i j k=>by simp only[KasT.bind,YD];show pM lt f (k (lt i j))
def bG (n:Nat) {α:Type} (R:α->Prop):KasT α->Prop
 |.ret a=>R a
 |.ask i j k=>i < n/\j < n/\∀b,bG n R (k b)
theorem qM {n:Nat} {α β:Type} {R:α->Prop} {S:β->Prop} {f:α->KasT β} (h:∀a,R a->bG n S (f a)):∀t:KasT α,bG n R t->bG n S (t.bind f)
 |.ret a,g=>by simp only[KasT.bind];show h a g
 |.ask i j k,g=>by
  simp only[KasT.bind,bG];show(g.1,g.2.1,λb=>qM h (k b) (g.2.2 b))
theorem UW {lt:Nat->Nat->Bool} {cmp:Nat->Nat->(Bool->Shared->Prop)->Shared->Prop} {s:Shared} {n:Nat} {α:Type} {R:α->Prop} {G:α->Shared->Prop} (h:∀i j C,i < n->j < n->C (lt i j) s->cmp i j C s):∀t:KasT α,bG n R t->G (YD lt t) s->KasT.kasWp cmp t G s
 |.ret a,_,g=>by simp only[KasT.kasWp];show g
 |.ask i j k,o,g=>by
  simp only[KasT.kasWp];show h i j _ o.1 o.2.1 (UW h (k (lt i j)) (o.2.2 _) g)
def In (p:Array Nat) (n:Nat):Prop:=0 < n/\∀x∈p.toList,x < n
theorem In.at {p:Array Nat} {n:Nat} (h:In p n) (i:Nat):p.getD i 0 < n:=by
 rw[XA];cases e:p[i]? with
 |none=>show h.1
 |some x=>show h.2 x (dA (by rw[QB];show e))
theorem In.perm {p q:Array Nat} {n:Nat} (h:In p n) (e:q.Perm p):In q n:=⟨h.1,λx j=>h.2 x ((Array.perm_iff_toList_perm.mp e).mem_iff.mp j)⟩
theorem In.rev {p:Array Nat} {n i j:Nat} (h:In p n):In (kas_rev p i j) n:=h.perm (mirror_perm ..)
theorem eR {p:Array Nat} {n:Nat} (h:In p n):∀f m,bG n (λο=>True) (kas_asc p f m)
 |0,m=>by unfold kas_asc;trivial
 |f+1,m=>by
  unfold kas_asc;show(h.at _,h.at _,λb=>?_);cases b
  .show eR h f (m+1)
  .trivial
theorem rP {n:Nat}:∀(f:Nat) (p:Array Nat) (m q:Nat),In p n->bG n (λr=>In r.1 n) (kas_desc f p m q)
 |0,p,m,q,h=>by unfold kas_desc;show h
 |f+1,p,m,q,h=>by
  unfold kas_desc;show(h.at _,h.at _,λb=>?_);cases b
  .show(h.at _,h.at _,λd=>?_);cases d
   .show rP f p (m+1) (q+1) h
   .show h
  .by_cases c:GT.gt q 0
   .simp only[c,if_true];show rP f _ (m+1) 0 h.rev
   .simp only[c,GB,if_true];show rP f p (m+1) 0 h
theorem VW {n m r:Nat} {p:Array Nat} (h:In p n):bG n (λx=>In x.2 n) (kas_tail3 m r p):=by
 unfold kas_tail3;show qM (R:=λο=>True) (λa ο=>?_) _ (eR h.rev _ _);show (h.rev:In (kas_rev p 0 m) n)
theorem WW {n m r:Nat} {p:Array Nat} (h:In p n):bG n (λx=>In x.2 n) (kas_descPart m r p):=by
 unfold kas_descPart;show qM (λa j=>?_) _ (rP _ _ _ _ h)
 split
 .show VW (In.rev j)
 .show VW j
theorem X2 {n r:Nat} {p:Array Nat} (h:In p n):bG n (λx=>In x.2 n) (kas_count r p):=by
 unfold kas_count;show qM (λa ο=>?_) _ (eR h _ _)
 split
 .show h
 .split
  .show(h.at _,h.at _,λb=>?_);cases b
   .show WW h.rev
   .show h
  .show WW h
theorem fR {n:Nat} {p:Array Nat} {k:Nat} (h:In p n):∀f l r,bG n (λο=>True) (kas_place p k f l r)
 |0,l,r=>by unfold kas_place;trivial
 |f+1,l,r=>by
  unfold kas_place
  split
  .trivial
  .show(h.at _,h.at _,λb=>?_);cases b
   .show fR h f _ _
   .show fR h f _ _
theorem YW {n:Nat}:∀(f:Nat) (p:Array Nat) (k:Nat),In p n->bG n (λx=>In x n) (kas_bin f p k)
 |0,p,k,h=>by unfold kas_bin;show h
 |f+1,p,k,h=>by
  unfold kas_bin;show qM (λa ο=>YW f _ _ (h.perm (bubble_perm ..))) _ (fR h _ _ _)
theorem Y2 {n:Nat} (h:0 < n):bG n (λx=>In x n) (kas_sort n):=by
 unfold kas_sort;let q:In (List.range n).toArray n:=⟨h,λx D=>by simpa using D⟩
 show qM (λa j=>?_) _ (X2 q)
 split
 .show YW _ _ _ j
 .show j
structure Od (lt:Nat->Nat->Bool) (n:Nat):Prop where
 tr:∀i j k,i < n->j < n->k < n->lt i j=true->lt j k=true->lt i k=true
 ir:∀i,i < n->lt i i=false
 to:∀i j,i < n->j < n->i≠j->lt i j=true\/lt j i=true
variable {lt:Nat->Nat->Bool} {n:Nat}
structure Pm (p:Array Nat) (n:Nat):Prop where
 sz:p.size=n
 lt:∀i,i < n->p.getD i 0 < n
 ne:∀i j,i < n->j < n->i≠j->p.getD i 0≠p.getD j 0
 pe:p.Perm (List.range n).toArray
def Up (lt:Nat->Nat->Bool) (p:Array Nat) (m:Nat):Prop:=∀i j,i < j->j < m->lt (p.getD i 0) (p.getD j 0)=true
def Dn (lt:Nat->Nat->Bool) (p:Array Nat) (m:Nat):Prop:=∀i j,i < j->j < m->lt (p.getD j 0) (p.getD i 0)=true
theorem Up.succ {p:Array Nat} {m:Nat} (o:Od lt n) (q:Pm p n) (h:Up lt p m) (U:1<=m) (O:m < n) (c:lt (p.getD (m - 1) 0) (p.getD m 0)=true):Up lt p (m+1):=λi j J D=>by
 let D||rfl:=(by omega:j < m\/j=m)
 .show h i j J D
 .let F||rfl:=(by omega:i < j - 1\/i=j - 1)
  .show o.tr _ _ _ (q.lt _ ⋯) (q.lt _ ⋯) (q.lt _ O) (h i (j - 1) F ⋯) c
  .show c
theorem Dn.succ {p:Array Nat} {m:Nat} (o:Od lt n) (q:Pm p n) (h:Dn lt p m) (U:1<=m) (O:m < n) (c:lt (p.getD m 0) (p.getD (m - 1) 0)=true):Dn lt p (m+1):=λi j J D=>by
 let D||rfl:=(by omega:j < m\/j=m)
 .show h i j J D
 .let F||rfl:=(by omega:i < j - 1\/i=j - 1)
  .show o.tr _ _ _ (q.lt _ O) (q.lt _ ⋯) (q.lt _ ⋯) c (h i (j - 1) F ⋯)
  .show c
theorem ZE {p:Array Nat} (o:Od lt n) (q:Pm p n) {i j:Nat} (D:i < n) (F:j < n) (ne:i≠j) (c:lt (p.getD i 0) (p.getD j 0)=false):lt (p.getD j 0) (p.getD i 0)=true:=by
 let h||h:=o.to _ _ (q.lt i D) (q.lt j F) (q.ne i j D F ne)
 .rw[h] at c;cases c
 .show h
theorem gR {p:Array Nat} (o:Od lt n) (hp:Pm p n):∀(f m:Nat),1<=m->m+f<=n->Up lt p m->∃r,YD lt (kas_asc p f m)=r/\m<=r/\r<=m+f/\Up lt p r/\(r=m+f\/lt (p.getD r 0) (p.getD (r - 1) 0)=true)
 |0,m,_,_,h=>(m,by unfold kas_asc;rfl,pA _,⋯,h,.inl rfl)
 |f+1,m,h1,h2,h=>by
  unfold kas_asc;simp only[YD];cases c:lt (p.getD m 0) (p.getD (m - 1) 0) with
  |true=>show(m,by simp[YD],pA _,⋯,h,.inr c)
  |false=>
   let(r,e,a1,a2,a3,a4):=gR o hp f (m+1) ⋯ ⋯ (h.succ o hp h1 ⋯ (ZE o hp ⋯ ⋯ ⋯ c));show(r,by simpa using e,⋯,⋯,a3,a4.imp (λh=>⋯) id)
theorem ZW {p:Array Nat} (o:Od lt n) (hp:Pm p n):∀(f m:Nat),1<=m->m+f<=n->Dn lt p m->∃r,YD lt (kas_desc f p m 0)=(p,(r,0))/\m<=r/\r<=m+f/\Dn lt p r
 |0,m,_,_,h=>(m,by unfold kas_desc;rfl,pA _,⋯,h)
 |f+1,m,h1,h2,h=>by
  unfold kas_desc;simp only[YD];cases c:lt (p.getD m 0) (p.getD (m - 1) 0) with
  |true=>
   let(r,e,a1,a2,a3):=ZW o hp f (m+1) ⋯ ⋯ (h.succ o hp h1 ⋯ c);show(r,by simpa using e,⋯,⋯,a3)
  |false=>
   let d:=ZE o hp ⋯ ⋯ ⋯ c;show(m,?_,pA _,⋯,h);rw[gA (by simp)];simp only[YD];rw[d,iA rfl];simp only[YD]
theorem Z2 {p:Array Nat} {i x:Nat} (h:p[i]?>x):p.getD i 0=x:=by
 rw[XA,h];rfl
theorem KN {p q:Array Nat} {i j:Nat} (h:p[i]?=q[j]?):p.getD i 0=q.getD j 0:=by
 rw[XA,XA,h]
theorem LN {p:Array Nat} {m:Nat} (h:m<=p.size) (k:Nat):(kas_rev p 0 m).getD k 0=if k < m then p.getD (m - 1 - k) 0 else p.getD k 0:=by
 have:=getElem?_mirror_all (xs:=p) (i:=0) (j:=m) h k;unfold kas_rev;by_cases c:k < m
 .rw[iA c];rw[iA ⟨LB _,c⟩,Nat.zero_add] at this;show KN this
 .rw[gA c];rw[gA (λz=>c z.2)] at this;show KN this
theorem UK {p:Array Nat} {m:Nat} (q:Pm p n) (h:m<=n):Pm (kas_rev p 0 m) n:=by
 let D:m<=p.size:=by rw[q.sz];show h
 show(by unfold kas_rev;rw[mirror_size];show q.sz,λi F=>?_,λi j F J ne=>?_,(mirror_perm ..).trans q.pe)
 .rw[LN D]
  split<;>show q.lt _ ⋯
 .rw[LN D,LN D]
  split<;>split<;>show q.ne _ _ ⋯ ⋯ ⋯
theorem WK {p:Array Nat} {m:Nat} (q:m<=p.size) (h:Dn lt p m):Up lt (kas_rev p 0 m) m:=λi j F D=>by
 rw[LN q,LN q,iA ⋯,iA D];show h _ _ ⋯ ⋯
theorem i3 {p:Array Nat} (o:Od lt n) (D:Pm p n) (U:1<=n):∃r q,YD lt (kas_count n p)=(r,q)/\Pm q n/\1<=r/\r<=n/\Up lt q r:=by
 unfold kas_count;rw[pM];let(r,e,a4,a5,F,J):=gR o D (n - 1) 1 (pA _) ⋯ (λi j U aa=>⋯);rw[e];by_cases c:r=n
 .simp only[c,beq_self_eq_true,if_true,YD];show(n,p,rfl,D,U,pA _,by rw[c] at F;show F)
 .let Z:¬(r == n)=true:=by simpa using c
  rw[gA Z];let J:lt (p.getD r 0) (p.getD (r - 1) 0)=true:=J.resolve_left ⋯;by_cases O:GT.gt r 1
  .rw[iA O];simp only[YD];rw[F 0 (r - 1) ⋯ ⋯,iA rfl];show(r,p,rfl,D,⋯,⋯,F)
  .rw[gA O];obtain rfl:r=1:=⋯;let a1:Dn lt p 2:=λi j ab ac=>by
    obtain⟨rfl,rfl⟩:i=0/\j=1:=⋯;show J
   let(m,a2,a6,a7,W):=ZW o D (n - 2) 2 ⋯ ⋯ a1;unfold kas_descPart;rw[pM,show n - (1+1)=n - 2 from rfl,show (1+1:Nat)=2 from rfl,a2];rw[gA (by change ¬GT.gt (0:Nat) 0;omega)];unfold kas_tail3;rw[pM];let a3:m<=p.size:=by rw[D.sz];omega
   let V:=UK D (m:=m) ⋯;let(r,e,a8,O,a0,a9):=gR o V (n - m) m ⋯ ⋯ (WK a3 W);rw[e];show(r,_,rfl,V,⋯,⋯,a0)
theorem iR {p:Array Nat} (o:Od lt n) (hp:Pm p n) {k:Nat} (hk:k < n) (hu:Up lt p k):∀(f l r:Nat),l<=r->r<=k->r - l<=f->(∀i,i < l->lt (p.getD i 0) (p.getD k 0)=true)->(∀i,r<=i->i < k->lt (p.getD k 0) (p.getD i 0)=true)->∃m,YD lt (kas_place p k f l r)=m/\m<=k/\(∀i,i < m->lt (p.getD i 0) (p.getD k 0)=true)/\(∀i,m<=i->i < k->lt (p.getD k 0) (p.getD i 0)=true)
 |0,l,r,h1,h2,h3,a,b=>(l,by unfold kas_place;rfl,⋯,a,λi hi=>b i ⋯)
 |f+1,l,r,h1,h2,h3,a,b=>by
  unfold kas_place;by_cases c:l>=r
  .rw[iA c];show(l,rfl,⋯,a,λi hi=>b i ⋯)
  .rw[gA c];simp only[YD];let hm:l<=(l+r) / 2/\(l+r) / 2 < r:=⋯;generalize (l+r) / 2=m at *;cases d:lt (p.getD k 0) (p.getD m 0) with
   |true=>
    rw[iA rfl];show iR o hp hk hu f l m hm.1 ⋯ ⋯ a λi hi hik=>?_;let rfl||hi:=(by omega:i=m\/m < i)
    .show d
    .show o.tr _ _ _ (hp.lt _ hk) (hp.lt _ ⋯) (hp.lt _ ⋯) d (hu m i hi hik)
   |false=>
    rw[gA (by simp)];let d':=ZE o hp hk ⋯ ⋯ d;show iR o hp hk hu f (m+1) r ⋯ h2 ⋯ (λi hi=>?_) b;let rfl||hi:=(by omega:i=m\/i < m)
    .show d'
    .show o.tr _ _ _ (hp.lt _ ⋯) (hp.lt _ ⋯) (hp.lt _ hk) (hu i m hi ⋯) d'
def OJ (k l i:Nat):Nat:=if i=l then k else if l < i/\i<=k then i - 1 else i
theorem jR {k l i n:Nat} (D:k < n) (q:i < n):OJ k l i < n:=by
 unfold OJ;by_cases c:i=l
 .rw[iA c];show D
 .rw[gA c];by_cases j:l < i/\i<=k
  .rw[iA j];omega
  .rw[gA j];show q
theorem YK {k l i j:Nat} (O:l<=k) (ne:i≠j):OJ k l i≠OJ k l j:=by
 unfold OJ;by_cases F:i=l
 .rw[iA F,gA ⋯];by_cases q:l < j/\j<=k
  .rw[iA q];omega
  .rw[gA q];omega
 .rw[gA F];by_cases J:j=l
  .rw[iA J];by_cases q:l < i/\i<=k
   .rw[iA q];omega
   .rw[gA q];omega
  .rw[gA J];by_cases q:l < i/\i<=k
   .rw[iA q];by_cases D:l < j/\j<=k
    .rw[iA D];omega
    .rw[gA D];omega
   .rw[gA q];by_cases D:l < j/\j<=k
    .rw[iA D];omega
    .rw[gA D];show ne
theorem MN {p:Array Nat} {k l:Nat} (q:k < p.size) (D:l<=k) (i:Nat):(bubble p k (k - l)).getD i 0=p.getD (OJ k l i) 0:=by
 have:=getElem?_bubble q (k - l) ⋯ i;rw[show k - (k - l)=l by omega] at this;unfold OJ;by_cases c:i=l
 .rw[iA c];rw[iA c] at this;show KN this
 .rw[gA c] at this ⊢;by_cases j:l < i/\i<=k
  .rw[iA j] at this ⊢;show KN this
  .rw[gA j] at this ⊢;show KN this
theorem aX (o:Od lt n):∀(f:Nat) (p:Array Nat) (k:Nat),Pm p n->k+f<=n->1<=k->Up lt p k->∃q,YD lt (kas_bin f p k)=q/\Pm q n/\Up lt q (k+f)
 |0,p,k,hp,_,_,h=>(p,by unfold kas_bin;rfl,hp,h)
 |f+1,p,k,hp,h1,h2,h=>by
  unfold kas_bin;rw[pM];let(l,e,hl,a,b):=iR o hp ⋯ h k 0 k (LB _) (pA _) ⋯ (λi hi=>⋯) (λi hi hik=>⋯);rw[e];let hks:k < p.size:=by rw[hp.sz];omega
  let hq:Pm (bubble p k (k - l)) n:=by
   show(by rw[bubble_size];show hp.sz,λi hi=>?_,λi j hi hj ne=>?_,(bubble_perm ..).trans hp.pe)
   .rw[MN hks hl];show hp.lt _ (jR ⋯ hi)
   .rw[MN hks hl,MN hks hl];show hp.ne _ _ (jR ⋯ hi) (jR ⋯ hj) (YK hl ne)
  let hu:Up lt (bubble p k (k - l)) (k+1):=λi j hij hj=>by
   rw[MN hks hl,MN hks hl];unfold OJ;by_cases c1:i=l
   .rw[iA c1,gA ⋯,iA ⋯];show b (j - 1) ⋯ ⋯
   .rw[gA c1];by_cases c2:j=l
    .rw[iA c2,gA ⋯];show a i ⋯
    .rw[gA c2];by_cases c3:l < i/\i<=k
     .rw[iA c3,iA ⋯];show h _ _ ⋯ ⋯
     .rw[gA c3];by_cases c4:l < j/\j<=k
      .rw[iA c4];show h _ _ ⋯ ⋯
      .rw[gA c4];show h _ _ hij ⋯
  let(q,e2,hq2,hu2):=aX o f _ (k+1) hq ⋯ ⋯ hu;show(q,e2,hq2,by rw[show k+(f+1)=k+1+f by omega];show hu2)
theorem K3 (o:Od lt n) (a1:1<=n):∃q,YD lt (kas_sort n)=q/\Pm q n/\Up lt q n:=by
 let a3:Pm (List.range n).toArray n:=by
  let J:∀i,i < n->(List.range n).toArray.getD i 0=i:=λi D=>Z2 (by simp[D]);show(by simp,λi D=>by rw[J i D];show D,λi j D a2 ne=>by rw[J i D,J j a2];show ne,Array.Perm.refl _)
 unfold kas_sort;rw[pM];let(r,q,e,U,V,a5,F):=i3 o a3 a1;rw[e];by_cases c:r < n
 .rw[iA c];let a0:max r 1=r:=⋯;change ∃q',YD lt (kas_bin (n - max r 1) q (max r 1))=q'/\_;rw[a0];let(a4,Z,W,O):=aX o (n - r) q r U ⋯ V F;show(a4,Z,W,by rw[show r+(n - r)=n by omega] at O;show O)
 .rw[gA c];show(q,rfl,U,by rw[show r=n by omega] at F;show F)
end
def EF:!Key->!Key->Bool
 |[.inr s,.inl a,.inl b],[.inr t,.inl c,.inl d]=>if s=t then (if a=c then decide (b < d) else decide (a < c)) else decide (s.cps.toList < t.cps.toList)
 |_,_=>false
def SE (k:!Key):Prop:=∃s a b,k=[.inr s,.inl a,.inl b]
theorem bX {s t u:Str} (j:s.cps.toList < t.cps.toList) (q:t.cps.toList < u.cps.toList):s.cps.toList < u.cps.toList:=List.lt_trans j q
theorem M3 {s t:Str} (h:s.cps.toList=t.cps.toList):s=t:=by
 cases s;cases t;rw[Str.mk.injEq];show Array.toList_inj.mp h
theorem ZK {s t:Str} (h:s≠t):s.cps.toList < t.cps.toList\/t.cps.toList < s.cps.toList:=by
 by_cases c:s.cps.toList < t.cps.toList
 .show .inl c
 .by_cases d:t.cps.toList < s.cps.toList
  .show .inr d
  .show absurd (M3 (List.le_antisymm (List.not_lt.mp d) (List.not_lt.mp c))) h
theorem aL {s:Str}:¬s.cps.toList < s.cps.toList:=List.lt_irrefl _
theorem cX {k:!Key}:EF k k=false:=by
 by_cases h:SE k
 .let(s,a,b,rfl):=h;change (if s=s then (if a=a then decide (b < b) else decide (a < a)) else decide (s.cps.toList < s.cps.toList))=false;rw[iA rfl,iA rfl];simp
 .cases e:EF k k with
  |false=>rfl
  |true=>
   rcases k with _|⟨(a|a),_|⟨(b|b),_|⟨(c|c),_|⟨d,r⟩⟩⟩⟩
   all_goals first|(cases e;done)|exact absurd (_,_,_,rfl) h
theorem dX {x y:!Key} (F:SE x) (J:SE y) (ne:x≠y):EF x y=true\/EF y x=true:=by
 let(s,a,b,rfl):=F;let(t,c,q,rfl):=J;change (if s=t then (if a=c then decide (b < q) else decide (a < c)) else decide (s.cps.toList < t.cps.toList))=true\/(if t=s then (if c=a then decide (q < b) else decide (c < a)) else decide (t.cps.toList < s.cps.toList))=true;by_cases j:s=t
 .subst j;rw[iA rfl,iA rfl];by_cases D:a=c
  .subst D;rw[iA rfl,iA rfl];have:b≠q:=λO=>ne (by rw[O]);simp only[wB];omega
  .rw[gA D,gA (Ne.symm D)];simp only[wB];omega
 .rw[gA j,gA (Ne.symm j)];simp only[wB];show ZK j
theorem kR {x y J:!Key} (Z:SE x) (a0:SE y) (hz:SE J) (q:EF x y=true) (j:EF y J=true):EF x J=true:=by
 let(s,a,b,rfl):=Z;let(t,c,V,rfl):=a0;let(u,e,f,rfl):=hz;let q:(if s=t then (if a=c then decide (b < V) else decide (a < c)) else decide (s.cps.toList < t.cps.toList))=true:=q;let j:(if t=u then (if c=e then decide (V < f) else decide (c < e)) else decide (t.cps.toList < u.cps.toList))=true:=j;change (if s=u then (if a=e then decide (b < f) else decide (a < e)) else decide (s.cps.toList < u.cps.toList))=true;by_cases U:s=t
 .subst U;rw[iA rfl] at q;by_cases F:s=u
  .subst F;rw[iA rfl] at j ⊢;by_cases O:a=c
   .subst O;rw[iA rfl] at q;by_cases D:a=e
    .subst D;rw[iA rfl] at j ⊢;simp only[wB] at q j ⊢;omega
    .rw[gA D] at j ⊢;show j
   .rw[gA O] at q;simp only[wB] at q;by_cases D:c=e
    .subst D;rw[gA O];simpa using q
    .rw[gA D] at j;simp only[wB] at j;rw[gA ⋯];simp only[wB];omega
  .rw[gA F] at j ⊢;show j
 .rw[gA U] at q;simp only[wB] at q;by_cases F:t=u
  .subst F;rw[gA U];simpa using q
  .rw[gA F] at j;simp only[wB] at j;let W:=bX q j;rw[gA (λJ=>by rw[J] at q;show aL (bX q j))];simpa using W
theorem eX:∀{a b:!(!Key)},a.Perm b->(∀k∈a,SE k)->a.Pairwise (EF · ·=true)->b.Pairwise (EF · ·=true)->a=b
 |[],b,h,_,_,_=>(List.Perm.nil_eq h)
 |x::a,b,h,ht,h1,h2=>by
  let hx:x∈b:=h.mem_iff.mp (wA ..);cases b with
  |nil=>cases hx
  |cons y b=>
   let hty:SE y:=ht y (h.mem_iff.mpr (wA ..));let htx:SE x:=ht x (wA ..);let e:x=y:=by
    let e||hx:=xA.mp hx
    .show e
    .let hy:y∈x::a:=h.mem_iff.mpr (wA ..);let e||hy:=xA.mp hy
     .show e.symm
     .let a1:=(EB.mp h1).1 y hy;let a2:=(EB.mp h2).1 x hx;have:=kR htx hty htx a1 a2;rw[cX] at this;cases this
   subst e;rw[eX (List.perm_cons x |>.mp h) (λk hk=>ht k (kA _ hk)) (EB.mp h1).2 (EB.mp h2).2]
def rE (h:Heap) (v:Value) (k:!Key):Prop:=∃x o xs n s a b t1 t2 t3,v=.ref x/\h.get? x>o/\o.cls=.type "tuple"/\o.data=.seq xs n/\xs.toList=[.str s t1,.int a t2,.int b t3]/\k=[.inr s,.inl a,.inl b]
theorem rE.tri {h:Heap} {v:Value} {k:!Key} (x:rE h v k):SE k:=by
 let(_,_,_,_,s,a,b,_,_,_,_,_,_,_,_,e):=x;show(s,a,b,e)
theorem bL {prog:Program} {w:World} {A:Around} {E:Value->Shared->Prop} {s:Shared} {Q:Bool->Shared->Prop} {u v:Value} {k l:!Key} (a2:rE s.heap u k) (a3:rE s.heap v l) (q:Q (EF k l) s):wpAny (model prog w) A (keyLt' (tuples' true) u v) Q E s:=by
 let(x,o,xs,n,s1,a,b,a6,a7,a8,rfl,a0,ae,a1,V,rfl):=a2;let(y,ag,ac,af,J,c,j,a9,aa,ab,rfl,W,ad,Z,U,rfl):=a3;show PySem.W.kat_lt a0 a1 W Z ?_;rw[V,U];let q:Q (if s1=J then (if a=c then decide (b < j) else decide (a < c)) else decide (s1.cps.toList < J.cps.toList)) s:=q;change PySem.W.KatLex prog w A true _ Q [(.str s1 a6,.str J a9),(.int a a7,.int c aa),(.int b a8,.int j ab)] 0 s;show PySem.W.kat_cons (wpAny_eqBool_str ?_);unfold PySem.W.KatGo;by_cases D:s1=J
 .rw[BA D,iA rfl];rw[iA D] at q;show PySem.W.kat_cons (wpAny_eqBool_int ?_);unfold PySem.W.KatGo;by_cases F:a=c
  .rw[show (a == c)=true by simpa using F,iA rfl];rw[iA F] at q;show PySem.W.kat_cons (wpAny_eqBool_int ?_);unfold PySem.W.KatGo;by_cases O:b=j
   .rw[show (b == j)=true by simpa using O,iA rfl];show PySem.W.kat_nil ?_;let a4:xs.size=3:=by rw[<-rB,V];rfl
    let a5:ac.size=3:=by rw[<-rB,U];rfl
    rw[a4,a5];rw[O] at q;simpa using q
   .rw[show (b == j)=false by simpa using O,gA (by simp)];show PySem.W.kat_one _ _ (PySem.P.lt_int q)
  .rw[show (a == c)=false by simpa using F,gA (by simp)];rw[gA F] at q;show PySem.W.kat_one _ _ (PySem.P.lt_int q)
 .rw[zA D,gA (by simp)];rw[gA D] at q;change wpAny (model prog w) A (oneLt' true _ _) Q _ s;rw[<-keyLt'_oneType];show PySem.W.kas_lt_str q
theorem lR {α β:Type} {F:α->β->Prop}:∀{xs:!α} {ys:!β} {i:Nat} {x:α},Paired F xs ys->xs[i]?>x->∃y,ys[i]?>y/\F x y
 |_,_,_,_,.nil,e=>by simp at e
 |_,_,0,_,.cons r _,e=>by simp at e;subst e;show(_,rfl,r)
 |_,_,i+1,x,.cons _ t,e=>by
  let(u,h1,h2):=lR (i:=i) (x:=x) t (by simpa using e);show(u,by simpa using h1,h2)
theorem mR {h h':Heap} {v:Value} {k:!Key} (x:rE h v k) (D:∀y o,h.get? y>o->o.cls=.type "tuple"->h'.get? y>o):rE h' v k:=by
 let(x,o,xs,n,s1,a,b,F,J,O,e,q,j,r):=x;show(x,o,xs,n,s1,a,b,F,J,O,e,D _ _ q j,j,r)
theorem fX {h:Heap}:∀{vs:!Value} {ks:!(!Key)},Paired (rE h) vs ks->∃fs,PySem.W.KatTups h vs fs/\fs.length=vs.length/\∀f∈fs,∃s t,f=.str s t
 |_,_,.nil=>([],PySem.W.KatTups.nil,rfl,λf hf=>by cases hf)
 |_,_,.cons p r=>by
  let(x,o,xs,n,s1,a,b,t1,t2,t3,e,g1,g2,g3,g4,_):=p;let(fs,h1,h2,h3):=fX r;subst e;show(.str s1 t1::fs,PySem.W.KatTups.cons g1 g2 g3 (by rw[<-QB,g4];rfl) h1,by rw[NA,NA,h2],λf hf=>?_);let rfl||hf:=xA.mp hf
  .show(_,_,rfl)
  .show h3 f hf
section
variable {prog:Program} {w:World} {A:Around} {E:Value->Shared->Prop} {s:Shared}
theorem N3 {a:Addr} {vs:!Value} {ks:!(!Key)} {n:Nat} {P:Fin->Shared->Prop} {F:Value->!Key->Prop} (b1:∀v k,F v k->rE s.heap v k) (a1:s.heap.get? a>(seqObj "list" vs.toArray n)) (a6:2<=vs.length) (b0:vs.length < 64) (al:Paired F vs ks) (b9:ks.Nodup)
  (h:∀(out:!Value) (ks':!(!Key)),Paired F out ks'->ks'.Perm ks->ks'.Pairwise (EF · ·=true)->P (.done (.ret .none)) {s with heap:=sortedHeap s.heap a vs out.toArray}):wpAny (model prog w) A (Builtin.«list.sort» ⟨[.ref a],[]⟩) P E s:=by
 rw[list_sort_plain];let ae:a < s.heap.objs.size:=EA a1;show eA (listItems_at a1 rfl ?_);show eA (listUpdate_at a1 rfl ?_);obtain⟨a5,ai⟩:∃a5,(s.heap.update a (Obj.mapSeq λο=> #[])).get? a>(seqObj "list" #[] a5):=⟨_,get?_update_seq a1 (λο=> #[])⟩
 show eA (seqEpoch_at ai rfl ?_);show eA (wpAny_newTuple ?_);show eA (wpAny_newList ?_);show zB ?_;let aj:(((s.heap.update a (Obj.mapSeq λο=> #[])).push (seqObj "tuple" vs.toArray 0)).push (seqObj "list" #[] 0)).get? a>(seqObj "list" #[] a5):=by
  rw[Heap.get?_push_ne _ _ _ (by rw[size_push',Heap.size_update];show SA (Nat.lt_succ_of_lt ae)),Heap.get?_push_ne _ _ _ (by rw[Heap.size_update];show SA ae)];show ai
 change wpAny (model prog w) A _ P E {s with heap:=((s.heap.update a (Obj.mapSeq λο=> #[])).push (seqObj "tuple" vs.toArray 0)).push (seqObj "list" #[] 0)};dsimp only;let hsz:¬vs.toArray.size < 2:=by rw[CA];omega
 rw[gA hsz,gA hsz];let b8:∀y o,s.heap.get? y>o->o.cls=.type "tuple"->(((s.heap.update a (Obj.mapSeq λο=> #[])).push (seqObj "tuple" vs.toArray 0)).push (seqObj "list" #[] 0)).get? y>o:=λy o aa b2=>by
  show uA _ (uA _ ?_);rw[Heap.get?_update_ne _ _ _ _ (λbb=>by rw[bb,a1] at aa;cases aa;show absurd (Value.type.inj b2) (by decide))];show aa
 let a9:Paired (rE (((s.heap.update a (Obj.mapSeq λο=> #[])).push (seqObj "tuple" vs.toArray 0)).push (seqObj "list" #[] 0))) vs ks:=Paired.mapP al λο ο q=>mR (b1 _ _ q) b8;generalize b3:((s.heap.update a (Obj.mapSeq λο=> #[])).push (seqObj "tuple" vs.toArray 0)).push (seqObj "list" #[] 0)=h6 at *;let(fs,ax,bf,ay):=fX a9;show eA (PySem.W.kat_kind (fs:=fs) (T:=.type "str") ax ⋯ (λv b6=>?_) (by decide) ?_)
 .let(bg,bh,rfl):=ay v b6;intro bd be E' s' _ q';show vA q'
 rw[show (Value.type "str" != Value.type "tuple")=true by decide];let af:=Paired.length a9;let V:∀i,i < vs.length->∃v k,vs.getD i .none=v/\ks.getD i []=k/\ks[i]?>k/\rE h6 v k:=λi D=>by
  let(k,a3,a7):=lR a9 (cA D);show(vs[i],k,by rw[List.getD_eq_getElem?_getD,cA D];rfl,by rw[List.getD_eq_getElem?_getD,a3];rfl,a3,a7)
 let ba:Od (λi j=>EF (ks.getD i []) (ks.getD j [])) vs.length:=by
  show(λi j k D J b5 az a6=>?_,λi D=>cX,λi j D J ne=>?_)
  .let(_,_,_,Z,_,W):=V i D;let(_,_,_,O,_,U):=V j J;let(_,_,_,aq,_,ar):=V k b5;show kR (by rw[Z];show W.tri) (by rw[O];show U.tri) (by rw[aq];show ar.tri) az a6
  .let(_,x,_,Z,a0,W):=V i D;let(_,y,_,O,a2,U):=V j J;show dX (by rw[Z];show W.tri) (by rw[O];show U.tri) ?_;rw[Z,O];intro e;rw[e,<-a2] at a0;show ne ((List.getElem?_inj (by rw[<-af];show D) b9).mp a0)
 let(p,ep,pm,up):=K3 ba ⋯;let a4:=PySem.W.kas_runs (prog:=prog) (w:=w) (A:=A) (E:=E) (κ:=tuples' true) (it:=pairsOf vs) (n:=vs.length) (s:={s with heap:=h6}) (G:=λam s'=>am=p/\s'={s with heap:=h6}) (Q:=λο ab s'=>arrOf ab=Array.map (PySem.W.kas_item (pairsOf vs)) p/\failedOf ab=none/\s'={s with heap:=h6}) a6 b0 (λam ab s' ο au av ac=>(by rw[au,ac.1],av,ac.2)) (UW (lt:=λi j=>EF (ks.getD i []) (ks.getD j [])) (R:=λx=>In x vs.length) (λi j C D J c=>?_) _ (Y2 ⋯) ⟨ep,rfl⟩)
 .let aw:Array.map (PySem.W.kas_item (pairsOf vs)) (List.range vs.length).toArray=pairsOf vs:=by
   have:=PySem.W.kas_range (pairsOf vs);rw[pairsOf_size] at this;show this
  unfold PySem.W.kasC PySem.W.kas_st at a4;rw[aw] at a4;show eA (cD a4 λr s' bc=>?_);let(O,U,a2):=bc;subst a2;show eA (seqEpoch_at aj rfl ?_);let ah:(Array.map (λx=>x.snd) (arrOf r.snd))=(p.toList.map λi=>vs.getD i .none).toArray:=by
   rw[O];apply Array.ext';rw[Array.toList_map,Array.toList_map,List.map_map];show List.map_congr_left λi ο=>?_;change (PySem.W.kas_item (pairsOf vs) i).snd=_;rw[PySem.W.kas_item_eq]
  rw[ah,U];show eA (listUpdate_at aj rfl ?_ (hsz2:=by rw[MB,CA,fA,rB,pm.sz];omega));simp only[bne_self_eq_false,aB,GB];show vA ?_;let ak:p.toList.length=vs.length:=by rw[rB];show pm.sz
  let a8:p.toList.Perm (List.range vs.length):=Array.perm_iff_toList_perm.mp pm.pe;let ag:∀i∈p.toList,i < vs.length:=λi D=>List.mem_range.mp (a8.mem_iff.mp D);let ad:ks=(List.range vs.length).map λi=>ks.getD i []:=by
   show List.ext_getElem? λi=>?_;rw[FA];by_cases c:i < vs.length
   .let(_,k,_,W,a0,_):=V i c;rw[List.getElem?_range c,a0];change some k>(ks.getD i []);rw[W]
   .rw[CB (by rw[<-af];omega),CB (by rw[WA];omega)]
    rfl
  have:=h (p.toList.map λi=>vs.getD i .none) (p.toList.map λi=>ks.getD i []) ?_ ?_ ?_
  .rw[<-b3];show this
  .clear up pm ad ak a8 a4 ep O U ah;generalize p.toList=l at *
   induction l with
   |nil=>show .nil
   |cons i l b7=>
    show .cons ?_ (b7 λj J=>ag j (kA _ J));let D:=ag i (wA ..);let(k,a3,a7):=lR al (cA D);change F (vs.getD i .none) (ks.getD i []);rw[List.getD_eq_getElem?_getD,cA D,List.getD_eq_getElem?_getD,a3];show a7
  .have:=a8.map λi=>ks.getD i [];rw[<-ad] at this;show this
  .rw[List.pairwise_map,oB];intro i j D J b4;have:=up i j b4 (by rw[<-ak];show J);rw[XA,XA,<-QB,<-QB,cA D,cA J] at this;show this
 .let(v,k,Z,W,a0,ao):=V i D;let(u,l,O,U,a2,ap):=V j J;unfold PySem.W.kas_cmp;rw[PySem.W.kas_item_eq,PySem.W.kas_item_eq,Z,O];rw[W,U] at c;show bL ao ap c
theorem O3 {a:Addr} {vs:!Value} {n:Nat} {P:Fin->Shared->Prop} (j:s.heap.get? a>(seqObj "list" vs.toArray n)) (O:vs.length < 2)
  (h:P (.done (.ret .none)) {s with heap:=sortedHeap s.heap a vs vs.toArray}):wpAny (model prog w) A (Builtin.«list.sort» ⟨[.ref a],[]⟩) P E s:=by
 rw[list_sort_plain];let D:a < s.heap.objs.size:=EA j;show eA (listItems_at j rfl ?_);show eA (listUpdate_at j rfl ?_);obtain⟨q,F⟩:∃q,(s.heap.update a (Obj.mapSeq λο=> #[])).get? a>(seqObj "list" #[] q):=⟨_,get?_update_seq j (λο=> #[])⟩
 show eA (seqEpoch_at F rfl ?_);show eA (wpAny_newTuple ?_);show eA (wpAny_newList ?_);show zB ?_;let J:(((s.heap.update a (Obj.mapSeq λο=> #[])).push (seqObj "tuple" vs.toArray 0)).push (seqObj "list" #[] 0)).get? a>(seqObj "list" #[] q):=by
  rw[Heap.get?_push_ne _ _ _ (by rw[size_push',Heap.size_update];show SA (Nat.lt_succ_of_lt D)),Heap.get?_push_ne _ _ _ (by rw[Heap.size_update];show SA D)];show F
 change wpAny (model prog w) A _ P E {s with heap:=((s.heap.update a (Obj.mapSeq λο=> #[])).push (seqObj "tuple" vs.toArray 0)).push (seqObj "list" #[] 0)};dsimp only;let hsz:vs.toArray.size < 2:=by rw[CA];show O
 rw[iA hsz,iA hsz];show eA (vA ?_);rw[StateT.run_pure];show eA (vA ?_);dsimp only;show eA (seqEpoch_at J rfl ?_);let U:Array.map (λx=>x.snd) (arrOf (SortSt.mk' general' (vs.toArray.zip vs.toArray) #[] 7 none))=vs.toArray:=by
  change (vs.toArray.zip vs.toArray).map (λx=>x.snd)=vs.toArray;apply Array.ext';rw[Array.toList_map,Array.toList_zip];show List.map_snd_zip (pA _)
 change wpAny _ _ (Builtin.List.listUpdate (.ref a) (λο=>Array.map (λx=>x.snd) (arrOf (SortSt.mk' general' (vs.toArray.zip vs.toArray) #[] 7 none))) >>= _) _ _ _;rw[U];show eA (listUpdate_at J rfl ?_ (hsz2:=by rw[MB,CA];omega));simp only[bne_self_eq_false,aB,GB];show vA h
theorem gX {a:Addr} {vs:!Value} {ks:!(!Key)} {n:Nat} {P:Fin->Shared->Prop} {F:Value->!Key->Prop} (U:∀v k,F v k->rE s.heap v k) (D:s.heap.get? a>(seqObj "list" vs.toArray n)) (O:vs.length < 64) (q:Paired F vs ks) (V:ks.Nodup)
  (h:∀(out:!Value) (ks':!(!Key)),Paired F out ks'->ks'.Perm ks->ks'.Pairwise (EF · ·=true)->P (.done (.ret .none)) {s with heap:=sortedHeap s.heap a vs out.toArray}):wpAny (model prog w) A (Builtin.«list.sort» ⟨[.ref a],[]⟩) P E s:=by
 by_cases J:2<=vs.length
 .show N3 U D J O q V h
 .show O3 D ⋯ (h vs ks q (mB _) ?_);let j:=Paired.length q
  match ks,j with
  |[],_=>show .nil
  |[k],_=>show List.pairwise_singleton _ _
  |_::_::_,j=>rw[NA,NA] at j;omega
theorem iX {H:Hp} {h:Heap} {a:Addr} {k:!Key} (ok:qE prog w H h) (e:H a>(.tup (k.map kV))) (F:SE k):rE h (.ref a) k:=by
 let(s1,x,y,rfl):=F;let(_,a0,r,o,j,q,n,D):=ok _ _ e;cases r with
 |cons J r=>cases r with
  |cons O r=>cases r with
   |cons U r=>
    cases r;let(V,rfl):=J;let(W,rfl):=O;let(Z,rfl):=U;show(a,o,_,n,s1,x,y,V,W,Z,rfl,j,q,D,rfl,rfl)
theorem nR {H:Hp}:∀{out:!Value} {ks:!(!Key)},Paired (λv k=>SE k/\∃a,v=Value.ref a/\H a>(.tup (k.map kV))) out ks->∃us,zC us out/\GG H ks us
 |_,_,.nil=>([],.nil,.nil)
 |_,_,.cons ⟨_,a,e,h⟩ r=>by
  let(us,h1,h2):=nR r;show(.ref a::us,.cons e h1,.cons (a,rfl,h) h2)
end
theorem P3 {X:Cx} (ar:X.calm=true):xE X (.builtin "sorted") (λxs H Q=>∃p D,xs=[.ref p]/\H p>(.dT D)/\D.length < 64/\(∀a9∈D,SE a9.1)/\∀l us ks,H l=none->GG H ks us->ks.Perm (D.map (·.1))->ks.Pairwise (EF · ·=true)->Q (.ref l) (upd H l (.lst us))):=by
 intro b2 s b5 H xs us Q Z r h;let(p,D,rfl,a6,a1,a7,q):=h;let(u,rfl,b3):=XE r;cases b3;let(ak,b1,aj,aa,o,es,ep,al,am,ao,W,a4):=yJ Z.hok a6;let hsz:=size_of_entries W;let a3:=Paired.length aa;show Calls.call_function_entry kind_sorted plain_sorted entry_sorted (args_sorted1 _) ?_;unfold Builtin.«sorted»;show eA (m:=checkCount "sorted" 1 1 _) (vA ?_);show eA (PySem.W.kdu_collect (A:=X.A.in1) (T1 (es:=es) (ep:=ep) b1) (Z.ok.hd ar) (o,al,am,ao) (by rw[MB];omega) λh' ab J av a2=>?_);let U:J.toList=aj.map λy=>Value.ref y.2.1:=by
  show List.ext_getElem? λj=>?_;rw[FA];by_cases c:j < es.size
  .let ae:j < J.toList.length:=by rw[rB,a2.1];show c
   let(_,e):=a2.2 j _ (by rw[<-QB];show cA ae);rw[cA ae,e];let O:=entry_at W j;rw[Array.getElem?_eq_getElem c,cA ⋯] at O;let O:=bA O;rw[O,cA ⋯]
   rfl
  .rw[CB (by rw[rB,a2.1];omega),CB ⋯]
   rfl
 let V:J.toList.length=D.length:=by rw[U,fA];show a3.symm
 let ac:Paired (λv k=>SE k/\∃a,v=Value.ref a/\H a>(.tup (k.map kV))) J.toList (D.map (·.1)):=by
  rw[U];clear U V W a4 hsz a3 a1 q a6 ak
  induction aa with
  |nil=>show .nil
  |@cons x y _ _ r t a8=>show .cons (a7 x (wA ..),_,rfl,r.2.1) (a8 λa9 aw=>a7 a9 (kA _ aw))
 let ax:(D.map (·.1)).Nodup:=by
  have:D.map (·.1)=aj.map (·.1):=by
   clear U V W a4 hsz a3 a1 q a6 ac a7 ak
   induction aa with
   |nil=>rfl
   |cons r t a8=>rw[AA,AA,a8,r.1]
  rw[this];show a4.2
 let a0:vC X b2 b5 H {s with heap:=h',toks:=ab}:=Z.kept (t':=ab) av;show eA (wpAny_newList ?_ (by rw[MB,V];omega));let a5:(h'.push (seqObj "list" J.toList.toArray 0)).get? h'.objs.size>(seqObj "list" J.toList.toArray 0):=HA _ rfl;show eA (zB (wpAny_call_entry slot_list_sort (_,a5,rfl) entry_list_sort (gX (F:=λv k=>SE k/\∃a,v=Value.ref a/\H a>(.tup (k.map kV))) (λv k ⟨ap,a,e,aq⟩=>?_) a5 (by rw[V];show a1) ac ax λout ks ag ah o3=>(_,rfl,?_)) (args_list_sort _)))
 .subst e;show mR (iX a0.hok aq ap) λy o b0 ο=>uA _ b0
 let(e,au):=sortedHeap_at (out:=out.toArray) a5;let(us,ai,b4):=nR ag;let az:=ai.length;let ay:out.length=D.length:=by rw[Paired.length ag,ah.length_eq,fA]
 show vA (_,rfl,(.ref h'.objs.size,_,a0.laid (t':=ab) (λb o ad=>?_) (pA _) (show MC X.prog X.w _ _ _ (.lst us) from (by rw[MB,az,ay];omega,out,e,ai,au)),rfl,q _ us ks (a0.hok.fresh (pA _)) b4 ah o3));let af:=EA ad;rw[sortedHeap_old (SA af) (by rw[size_push'];show Nat.lt_succ_of_lt af)];show uA _ ad
theorem jX {H:Hp}:∀{us:!V} {its:!Value} {ks:!(!Key)},zC us its->GG H ks us->(∀k∈ks,SE k)->Paired (λv k=>SE k/\∃a,v=Value.ref a/\H a>(.tup (k.map kV))) its ks
 |_,_,_,.nil,.nil,_=>.nil
 |_,_,_,.cons r v,.cons ⟨a,e,h⟩ q,ht=>by
  subst e;show .cons (ht _ (wA ..),a,r,h) (jX v q λk hk=>ht k (kA _ hk))
theorem lX {X:Cx} (aj:X.calm=true):xE X (.builtin "sorted") (λxs H Q=>∃p vs J,xs=[.ref p]/\uC X.K H p vs/\GG H J vs/\vs.length < 64/\J.Nodup/\(∀k∈J,SE k)/\∀l us ks,H l=none->GG H ks us->ks.Perm J->ks.Pairwise (EF · ·=true)->Q (.ref l) (upd H l (.lst us))):=by
 intro ae s ah H xs us Q V r h;let(p,vs,J,rfl,aa,a7,ai,a8,ab,q):=h;let(u,rfl,af):=XE r;cases af;let(D,r',pl,hz):=V.list aa;let ak:=r'.length;show Calls.call_function_entry kind_sorted plain_sorted entry_sorted (args_sorted1 _) ?_;unfold Builtin.«sorted»;show eA (m:=checkCount "sorted" 1 1 _) (vA ?_);show eA (collect_list pl.isList ?_ ⋯);let a6:∀b o,s.heap.get? b>o->((s.heap.push (seqObj "list" #[] 0)).update s.heap.objs.size (Obj.mapSeq λx=>x++D.toArray)).get? b>o:=λb o j=>by
  rw[Heap.get?_update_ne _ _ _ _ (SA (EA j))];show uA _ j
 generalize (s.heap.push (seqObj "list" #[] 0)).update s.heap.objs.size (Obj.mapSeq λx=>x++D.toArray)=h' at *;let W:=jX r' a7 ab;let O:vC X ae ah H {s with heap:=h'}:=V.kept (t':=s.toks) a6;show eA (wpAny_newList ?_ (by rw[MB];omega));let U:(h'.push (seqObj "list" D.toArray 0)).get? h'.objs.size>(seqObj "list" D.toArray 0):=HA _ rfl;show eA (zB (wpAny_call_entry slot_list_sort (_,U,rfl) entry_list_sort (gX (F:=λv k=>SE k/\∃a,v=Value.ref a/\H a>(.tup (k.map kV))) (λv k ⟨a3,a,e,a4⟩=>?_) U ⋯ W a8 λout ks a0 a1 o3=>(_,rfl,?_)) (args_list_sort _)))
 .subst e;show mR (iX O.hok a4 a3) λy o ad ο=>uA _ ad
 let(e,a5):=sortedHeap_at (out:=out.toArray) U;let(us,a2,ag):=nR a0;let ac:=a2.length;let a9:out.length=D.length:=by rw[Paired.length a0,a1.length_eq,<-Paired.length W]
 show vA (_,rfl,(.ref h'.objs.size,_,O.laid (t':=s.toks) (λb o j=>?_) (pA _) (show MC X.prog X.w _ _ _ (.lst us) from (by rw[MB,ac,a9];omega,out,e,a2,a5)),rfl,q _ us ks (O.hok.fresh (pA _)) ag a1 o3));let Z:=EA j;rw[sortedHeap_old (SA Z) (by rw[size_push'];show Nat.lt_succ_of_lt Z)];show uA _ j
open Classical in
theorem mX (a b:Key):kH (kV a) (kV b)=decide (a=b):=by
 cases a<;>cases b<;>simp[kV,kH,Bool.beq_eq_decide_eq]
def UE (k:!Key):!Dv:=k.map λx=>.leaf (kV x)
theorem NN:∀(k l:!Key),rD (UE k) (UE l)=decide (k=l)
 |[],[]=>by simp[UE,rD]
 |[],b::l=>by simp[UE,rD]
 |a::k,[]=>by simp[UE,rD]
 |a::k,b::l=>by
  let ih:=NN k l;unfold UE at ih ⊢;rw[AA,AA,rD,ih,yE,mX,YB];simp
theorem ON:∀(k l:!Key),qD (UE k) (UE l)=true
 |[],[]=>by simp[UE,qD]
 |[],b::l=>by simp[UE,qD]
 |a::k,[]=>by simp[UE,qD]
 |a::k,b::l=>by
  let ih:=ON k l;unfold UE at ih ⊢;rw[AA,AA,qD,ih,IE];rfl
theorem rM:∀(k:!Key),AC (UE k)=0
 |[]=>by simp[UE,AC]
 |a::k=>by
  let ih:=rM k;unfold UE at ih ⊢;rw[AA,AC,ih,RC];rfl
theorem nX {K:PySem.W.Frag} {H:Hp}:∀(k:!Key),IC K H (UE k) (k.map kV)
 |[]=>by change IC K H [] [];unfold IC;rfl
 |a::k=>by
  change IC K H (Dv.leaf (kV a)::UE k) (kV a::k.map kV);unfold IC;show(_,_,rfl,?_,nX k);unfold ID;show⟨rfl,by cases a<;>rfl⟩
theorem YI {K:PySem.W.Frag} {H:Hp} {a:Addr} {k:!Key} (h:H a>(.tup (k.map kV))):ID K H (.seq true (UE k)) (.ref a):=by
 unfold ID;show(a,_,rfl,by rw[iA rfl];show VC.of h,nX k)
end L2
namespace L2
open PySem PySem.Spec PyProof.Rows
section
variable {prog:Program} {w:World} {K:Type} [DecidableEq K] {knd:HeapKind prog w K} {A:Around} {E:Value->Shared->Prop} {s:Shared}
theorem Q3 {J a:Addr} {xs:!(K×Addr×Value)} {k:K} {U:Value} {Q:Value->Shared->Prop} (a1:knd.room A) (V:knd.is s.heap k a) (a7:s.heap.DictOfH knd J xs) (hsz:xs.length<=sizeLine)
  (a4:∀p,atKey xs k>p->Q p.2 {s with toks:=s.toks+knd.draws k})
  (a5:atKey xs k=none->∀h',h'.DictOfH knd J (storedH xs k a U)->Heap.SameBut J s.heap h'->Q U {s with heap:=h',toks:=s.toks+knd.draws k}):wpAny (model prog w) A (dictSetDefault J (.ref a) U) Q E s:=by
 let(o,es,ep,D,a6,hd,O,Z,W):=a7;unfold dictSetDefault
 try with_reducible show zB ?_
 show eA (knd.pyHash a1 V ?_);show eA (wpAny_dictFind_heap (s:={s with toks:=s.toks+knd.draws k}) a1 V D hd O Z W (λF=>?_) λj p a0=>?_)
 .let a8:k∉xs.map (·.1):=not_mem_keys_of_get F;show eA (wpAny_rule (eA (wpAny_updateDictKeys (hz:=by let e:=size_of_entries O;omega) (s:={s with toks:=s.toks+knd.draws k}) D hd (vA (a5 (atKey_none_of_get F) _ (_,_,ep+1,RB _ D (Obj.isFreed_of_dict (Obj.data_mapDictKeys hd _)),a6.mapDictKeys _,Obj.data_mapDictKeys hd _,?_,?_,?_) (KB ..))))))
  .rw[storedH_new (atKey_none_of_get F)];simp[O,entryOfKey]
  .rw[storedH_new (atKey_none_of_get F)];intro x q;let q||q:=UA.mp q
   .show knd.keeps (Z x q) D hd (KB ..)
   .simp only[nA] at q;subst q;show knd.keeps V D hd (KB ..)
  .rw[storedH_new (atKey_none_of_get F)];rw[MA,KA];show(W,by simp,?_);intro x q y a2;simp only[AA,cC,nA] at a2;subst a2;show λe=>a8 (e ▸ q)
 .show eA (XB (s:={s with toks:=s.toks+knd.draws k}) D hd ?_);let a3:es[j]?>(entryOfKey knd (k,p)):=by rw[entry_at O,a0];rfl
  rw[a3];show eA (wpAny_rule (vA (a4 p (atKey_of_get W a0))))
theorem R3 {j a:Addr} {q:Value}:MeetsIn prog w (Builtin.«dict.setdefault» ⟨[.ref j,.ref a,q],[]⟩) (λA R s=>knd.room A.in1/\(j == sysModules)=false/\∃k xs,knd.is s.heap k a/\s.heap.DictOfH knd j xs/\xs.length<=sizeLine/\
   (∀p,atKey xs k>p->R (.ok (.ret p.2)) {s with toks:=s.toks+knd.draws k})/\
   (atKey xs k=none->∀h',h'.DictOfH knd j (storedH xs k a q)->Heap.SameBut j s.heap h'->R (.ok (.ret q)) {s with heap:=h',toks:=s.toks+knd.draws k})):=
 .of_wp λA R s ⟨a0,hd,k,xs,O,D,hsz,F,J⟩=>by
  unfold Builtin.«dict.setdefault»;show eA ?_;unfold Builtin.Dict.keyAndDefault;show eA (wpAny_notOrdered_dict D.typeIs ?_);change wpAny _ _ (pure (j,(Value.ref a,some q))) _ _ s;show vA ?_;change wpAny _ _ (if (j == sysModules)=true then _ else (dictSetDefault j (.ref a) q >>= _)) _ _ s;rw[gA (by rw[hd];show lA)];show eA (Q3 a0 O D hsz (λp W=>vA (p.2,rfl,F p W)) λV h' U Z=>vA (q,rfl,J V h' U Z))
end
theorem S3 {X:Cx} {U:!(Addr×Obj)} {W:St} {H:Hp} {s:Shared} {a b:Addr} {j:!(!Key×V)} {k:!Key} {A:Around} {E:Value->Shared->Prop} {r:Value} {F:V} {Q:Value->Shared->Prop} (ae:A.units+1 < cLine) (J:vC X U W H s) (e:H a>(.dT j)) (Z:H b>(.tup (k.map kV))) (af:DC F r) (ah:j.length < sizeLine)
  (a8:∀v,tD j k>v->∀a2 s',vC X U W H s'->DC v a2->Q a2 s')
  (a9:tD j k=none->∀s',vC X U W (upd H a (.dT (lE j k F))) s'->Q r s'):wpAny (model X.prog X.w) A (call (.builtin "dict.setdefault") [.ref a,.ref b,r]) Q E s:=by
 let(ag,hd,xs,O,dd):=yJ J.hok e;let hz:xs.length<=sizeLine:=by rw[<-Paired.length O];show ag
 let aa:(lE j k F).length<=sizeLine:=by have:=JQ j k F;omega
 show call_meetsIn PySem.F.slot_dict_setdefault dd.typeIs PySem.F.entry_dict_setdefault (PySem.F.args_dict_setdefault_3 _ _ _) (R3 (knd:=tupleKind (aD X.prog X.w))) (tupleKind_room_in1 ae,hd,k,xs,vN J.hok Z,dd,hz,λp ac=>?_,λab h' a3 ad=>?_)
 .let q:=O.val k;rw[ac] at q;cases D:tD j k with
  |none=>rw[D] at q;show q.elim
  |some v=>rw[D] at q;show a8 v D _ _ (J.tok _) q
 .let q:=O.val k;rw[ab] at q;let D:tD j k=none:=by
   cases D:tD j k with
   |none=>rfl
   |some v=>rw[D] at q;show q.elim
  show a9 D _ ?_;let(q,es,ep,a1,a4,a5,a6,_,a7):=a3;show wN J (by rw[e];show True.intro) ad ⟨q,a1⟩ (aa,hd,_,(O.put k Z af).keeps λc ai a0=>?_,q,es,ep,a1,a4,a5,a6,a7);rw[sC (HD a0 e nofun)];show a0
def iH (td ty tx:TE):TE:=λσ H Q=>td σ H λx H1=>∃a,x=.ref a/\LQ H1 a/\ty σ H1 λy H2=>tx σ H2 λz H3=>∃kvs k b,H3 a>(.dT kvs)/\y=.ref b/\H3 b>(.tup (k.map kV))/\kvs.length < sizeLine/\
 (∀v,tD kvs k>v->Q v H3)/\(tD kvs k=none->Q z (upd H3 a (.dT (lE kvs k z))))
theorem oX {X:Cx} {o e f:Expr} {J O:Pos} {V ty W:TE} (ad:X.A.units+1 < cLine) (ac:PE X o V) (a8:PE X e ty) (a9:PE X f W) (m:M2 X o "setdefault" J e f O):PE X (.Call (.Attribute o "setdefault" J) [e,f] [] O) (iH V ty W):=by
 intro q s D H Q a1 h;show wpAny_Call_method m.base m.few m.line PySem.F.plainAttrs_dict PySem.F.slot_dict_setdefault PySem.F.type_dict_setdefault (cD (ac q s D H _ a1 h) λu s1 au=>?_);let(x,Z,F,ak,a,ex,a4,af):=au;subst ex;obtain rfl:u=Value.ref a:=ak;let(ap,aq,_):=tW F a4;show(ap,aq,?_);rw[m.trees];show Calls.callWith_builtin rfl (Calls.evalArgs_plain (Calls.spliced_cons (cD (a8 q s1 D Z _ F af) λax am ⟨y,a0,a2,al,ag⟩=>
  Calls.spliced_cons (cD (a9 q am D a0 _ a2 ag) λaw az ⟨ar,av,a3,U,ay,k,b,a5,a7,a6,aa,ah,ai⟩=>Calls.spliced_nil ?_))))
 subst a7;cases al;show S3 ad a3 a5 a6 U aa (λv ae b0 ao j aj=>(v,_,j,aj,ah v ae)) λab ao j=>(ar,_,j,U,ai ab)
theorem T3 {a:Addr} {o:Obj} {F:!(!Key×V)} {g:TG} {Z:TT} {W:TE} {h:EG g Z W} {a3:St} {O:Addr} {Q:Hp->Prop} {H:Hp} (J:Nat->!V->St->Hp->Prop) (a6:J 0 [] a3 (upd H O (.lst []))) (aa:∀i j D H,i<=F.length->J i j D H->H a>(.frz o (.dT F)))
  (ab:∀i k x b j D H,F[i]?>(k,x)->H b>(.tup (k.map kV))->J i j D H->g (.ref b) D H λU a4=>Z U a4 λc a0=>if c=true then W U a0 λv a1=>a1 O>(.lst j)/\j.length < sizeLine/\J (i+1) (j++[v]) U (upd a1 O (.lst (j++[v]))) else J (i+1) j U a0) (hd:∀j D H,J F.length j D H->Q H):
  fH g Z W h (TK a o F) a3 O Q H:=by
 show(λi m j D H=>i+m=F.length/\J i j D H,(F.length,Nat.zero_add _,a6),λi m j D H ⟨e,p⟩=>?_);let a2:=aa i j D H ⋯ p;by_cases a8:i < F.length
 .show .inr (⟨a2,a8⟩,J (i+1),λj D H q=>(m - 1,⋯,⋯,q),?_);rintro y ac ⟨rfl,k,v,b,a9,rfl,a7⟩;show ab i k v b j D _ a9 a7 p
 .let a5:i=F.length:=⋯;subst a5;show .inl ⟨⟨a2,rfl⟩,hd j D H p⟩
section
variable {M:Model} {A:Around} {E:Value->Shared->Prop} {s:Shared} {env:Env}
end
section
variable {M:Model} {A:Around} {E:Value->Shared->Prop} {s:Shared} {env:Env}
end
section
variable {X:Cx}
end
section
variable {prog:Program} {w:World} {A:Around} {E:Value->Shared->Prop} {s:Shared}
end
section
variable {prog:Program} {w:World} {A:Around} {E:Value->Shared->Prop} {s:Shared}
end
section
variable {X:Cx}
end
section
variable {K:PySem.W.Frag} {h:Heap} {mg:Str->Option Value} {x qual:Str} {st:Stmt} {ps:!Str} {C f:Addr} {oc:Value} {od an:Option Addr} {osl:Array (Option Value)} {kV doc pm cdv ct:Value}
def GF (K:PySem.W.Frag) (x:Str) (st:Stmt):Prop:=∃f fd,PySem.W.nsIn K mainGlobals x>(↑f)/\bH K x x st f fd
theorem GF.mk (a:PySem.W.nsIn K mainGlobals x>(↑f)) (l:K.lookup f>(oc,od,.func (PySem.W.fnOf x x (uD st) (eD st) (mC st) .none kV doc pm an cdv ct),osl)) (c:PySem.W.codeIn K cdv x=true) (k:PySem.W.keepIn K (.ref f)=true):GF K x st:=(_,_,a,MQ l c k)
theorem GF.raw (g:GF K x st) (X:K.In h) (G:h.Ns mainGlobals mg) (b:∀(kV D pm:Value) (an:Option Addr) (j q:Value) (us:!Value),us.length=ps.length->bindArgs (PySem.W.fnOf x x (uD st) (eD st) (mC st) .none kV D pm an j q) ⟨us,[]⟩=pure (ps.zip us)):ZF K mg x x st ps []:=
 let ⟨_,_,a,F⟩:=g
 (_,_,_,PySem.W.mg_of X G a,F,F.binds b,.nil)
theorem GF.law (g:GF K x st) (X:K.In h) (G:h.Ns mainGlobals mg) {p:Str} (b:∀(kV J pm:Value) (an:Option Addr) (q D u:Value),bindArgs (PySem.W.fnOf x x (uD st) (eD st) (mC st) .none kV J pm an q D) ⟨[u],[]⟩=pure [(p,u)]):∃f j,mg x=↑f/\bH K x x st f j/\∀(s:Shared) (u:Value),BindsTo s j ⟨[u],[]⟩ [(p,u)]:=by
 let(f,j,a,F):=g;show(f,j,PySem.W.mg_of X G a,F,λs u=>?_);let(U,V,kV,J,pm,an,q,D,W,rfl,lk,O):=F.ex;show .of_eq (b ..)
def MF (K:PySem.W.Frag) (C:Addr) (x qual:Str) (st:Stmt):Prop:=∃f fd,XG K C x f/\bH K x qual st f fd
theorem MF.mk (a:PySem.W.findIn K (.ref C) x>(↑f)) (i:PySem.W.isFn K (.ref f)=true) (l:K.lookup f>(oc,od,.func (PySem.W.fnOf x qual (uD st) (eD st) (mC st) .none kV doc pm an cdv ct),osl)) (c:PySem.W.codeIn K cdv qual=true) (k:PySem.W.keepIn K (.ref f)=true):MF K C x qual st:=(_,_,(a,i,k),MQ l c k)
theorem MF.raw (g:MF K C x qual st) (b:∀(kV D pm:Value) (an:Option Addr) (j q:Value) (us:!Value),us.length=ps.length->bindArgs (PySem.W.fnOf x qual (uD st) (eD st) (mC st) .none kV D pm an j q) ⟨us,[]⟩=pure (ps.zip us)):DD K C x qual st ps []:=
 let ⟨_,_,a,F⟩:=g
 (_,_,_,a,F,F.binds b,.nil)
def IF (K:PySem.W.Frag) (C:Addr) (qual:Str) (st:Stmt):Prop:=∃f fd,Mk K C f/\bH K "__init__" qual st f fd
theorem IF.mk (m:PySem.W.makesIn K C=true) (j:PySem.W.keepIn K (.ref C)=true) (a:PySem.W.findIn K (.ref C) "__init__">(↑f)) (i:PySem.W.isFn K (.ref f)=true) (l:K.lookup f>(oc,od,.func (PySem.W.fnOf "__init__" qual (uD st) (eD st) (mC st) .none kV doc pm an cdv ct),osl)) (c:PySem.W.codeIn K cdv qual=true) (k:PySem.W.keepIn K (.ref f)=true):IF K C qual st:=(_,_,(m,a,i,j),MQ l c k)
theorem IF.raw (g:IF K C qual st) (X:K.In h) (G:h.Ns mainGlobals mg) (n:PySem.W.nsIn K mainGlobals x>(↑C)) (b:∀(kV D pm:Value) (an:Option Addr) (j q:Value) (us:!Value),us.length=ps.length->bindArgs (PySem.W.fnOf "__init__" qual (uD st) (eD st) (mC st) .none kV D pm an j q) ⟨us,[]⟩=pure (ps.zip us)):DH K mg x C qual st ps []:=
 let ⟨_,_,a,F⟩:=g
 (_,_,_,PySem.W.mg_of X G n,a,F,F.binds b,.nil)
end
namespace ST
def sP (m i:Nat):Nat:=(i * 5+1) % (m+1)
def tP (m:Nat):Nat->Nat->!Nat
 |0,_=>[]
 |k+1,i=>i::tP m k (sP m i)
theorem oR:∀i,i < 8->∀j,j < 8->j∈tP 7 8 i:=by decide
theorem PN:∀i,i < 32->∀j,j < 32->j∈tP 31 32 i:=∅
def GH (m:Nat):Nat->Nat->Nat
 |0,i=>i
 |k+1,i=>GH m k (sP m i)
theorem pR {m j:Nat}:∀{k i:Nat},j∈tP m k i->∃n,n < k/\GH m n i=j
 |0,_,h=>by cases h
 |k+1,i,h=>by
  let h||h:=xA.mp h
  .show(0,⋯,h.symm)
  .let(n,h1,h2):=pR h;show(n+1,⋯,h2)
def Mk (m:Nat):Prop:=m=7\/m=31
theorem U3 {m:Nat} (F:Mk m) {i j:Nat} (J:i<=m) (O:j<=m):∃n,n<=m/\GH m n i=j:=by
 let rfl||rfl:=F
 .let(n,D,q):=pR (oR i ⋯ j ⋯);show(n,⋯,q)
 .let(n,D,q):=pR (PN i ⋯ j ⋯);show(n,⋯,q)
def lp (m:Nat):Nat->Nat×Nat->Nat×Nat
 |0,x=>x
 |k+1,x=>SetTable.leap m (lp m k x).1 (lp m k x).2
theorem QN {m:Nat} {x:Nat×Nat} (h:x.1<=m):∀k,(lp m k x).1<=m
 |0=>h
 |k+1=>by
  change (_ % (m+1))<=m;have:=Nat.mod_lt ((lp m k x).1 * 5+1+(lp m k x).2 / 32) (show 0 < m+1 by omega);omega
theorem pX {m:Nat} {x:Nat×Nat}:∀k,(lp m k x).2=x.2 / 32 ^ k
 |0=>by change x.2=_;rw[Nat.pow_zero,Nat.div_one]
 |k+1=>by
  change (lp m k x).2 / 32=_;rw[pX k,Nat.div_div_eq_div_mul,Nat.pow_succ]
theorem cL {m:Nat} {x:Nat×Nat} (q:x.2 < 2 ^ 64) {k:Nat} (j:13<=k):(lp m k x).2=0:=by
 rw[pX];apply Nat.div_eq_of_lt;have:(32:Nat) ^ 13<=32 ^ k:=Nat.pow_le_pow_right ⋯ j;let e:(32:Nat) ^ 13=2 ^ 65:=by decide
 omega
theorem qX {m:Nat}:∀{n i:Nat},GH m (n+1) i=sP m (GH m n i)
 |0,_=>rfl
 |n+1,i=>qX (n:=n) (i:=sP m i)
theorem rX {m:Nat} {x:Nat×Nat} (hx:x.2 < 2 ^ 64):∀n,(lp m (13+n) x).1=GH m n (lp m 13 x).1
 |0=>rfl
 |n+1=>by
  rw[qX,<-rX hx n];change ((lp m (13+n) x).1 * 5+1+(lp m (13+n) x).2 / 32) % (m+1)=_;rw[cL hx ⋯]
  rfl
theorem dL {m:Nat} (F:Mk m) {x:Nat×Nat} (h:x.1<=m) (J:x.2 < 2 ^ 64) {j:Nat} (D:j<=m):∃k,k<=13+m/\(lp m k x).1=j:=by
 let(n,O,q):=U3 F (QN h 13) D;show(13+n,⋯,by rw[rX J];show q)
theorem X3 (h:Int):SetTable.bits h < 2 ^ 64:=by unfold SetTable.bits;omega
theorem sX {m:Nat} {x:Nat×Nat}:∀n,lp m (n+1) x=lp m n (SetTable.leap m x.1 x.2)
 |0=>rfl
 |n+1=>by
  change SetTable.leap m (lp m (n+1) x).1 (lp m (n+1) x).2=_;rw[sX n]
  rfl
theorem tX {m:Nat} {ow:Array (Option Nat)}:∀{n fuel:Nat} {x:Nat×Nat},n < fuel->ow.getD (lp m n x).1 (some 0)=none->∃j,SetTable.layClean.free m ow fuel x.1 x.2>j/\ow.getD j (some 0)=none
 |n,fuel+1,x,hf,he=>by
  unfold SetTable.layClean.free;cases e:(List.range (SetTable.runEnd m x.1+1 - x.1)).find? λk=>(ow.getD (x.1+k) (some 0)).isNone with
  |some k=>
   let h1:=List.find?_some e;show(_,rfl,Option.isNone_iff_eq_none.mp h1)
  |none=>
   dsimp only;cases n with
   |zero=>
    exfalso;let h1:=List.find?_eq_none.mp e 0 (List.mem_range.mpr (by unfold SetTable.runEnd;split<;>omega));apply h1;rw[Nat.add_zero];show Option.isNone_iff_eq_none.mpr he
   |succ n=>
    rw[sX] at he;show tX (x:=SetTable.leap m x.1 x.2) ⋯ he
structure Ow (m:Nat) (ow:Array (Option Nat)) (js:!Nat):Prop where
 sz:ow.size=m+1
 nd:js.Nodup
 le:∀j∈js,j<=m
 at_:∀j,j<=m->ow[j]?>(if j∈js then some (js.idxOf j) else none)
theorem Ow.zero (m:Nat):Ow m (Array.replicate (m+1) none) []:=(by simp,.nil,(λj h=>by cases h),λj q=>by
 rw[Array.getElem?_replicate,iA ⋯];rfl)
theorem Ow.next {m:Nat} (a8:Mk m) {ow:Array (Option Nat)} {F:!Nat} (h:Ow m ow F) (ab:F.length<=m) (D:Int):
  ∃j,SetTable.layClean.free m ow (SetTable.turns m) (SetTable.bits D % (m+1)) (SetTable.bits D)>j/\Ow m (ow.setIfInBounds j (some F.length)) (F++[j]):=by
 let V:∃j,j<=m/\j∉F:=by
  apply Classical.byContradiction;intro V;let sub:List.range (m+1) ⊆ F:=λj a6=>Classical.byContradiction λq=>V (j,by have:=List.mem_range.mp a6;omega,q);have:=(List.nodup_range (n:=m+1)).length_le_of_subset sub;rw[WA] at this;omega
 let(a9,W,a7):=V;let a3:SetTable.bits D % (m+1)<=m:=by
  have:=Nat.mod_lt (SetTable.bits D) (show 0 < m+1 by omega);omega
 let(k,aa,a1):=dL a8 (x:=(SetTable.bits D % (m+1),SetTable.bits D)) a3 (X3 D) W;let(j,a2,O):=tX (m:=m) (ow:=ow) (n:=k) (fuel:=SetTable.turns m) (x:=(SetTable.bits D % (m+1),SetTable.bits D)) (by unfold SetTable.turns;omega) (by
  rw[a1,XA,h.at_ a9 W,gA a7];rfl)
 show(j,a2,?_);let Z:j<=m:=by
  apply Classical.byContradiction;intro q;rw[XA,Array.getElem?_eq_none (by rw[h.sz];omega)] at O;cases O
 let a0:j∉F:=λq=>by
  rw[XA,h.at_ j Z,iA q] at O;cases O
 show(by rw[Array.size_setIfInBounds];show h.sz,?_,?_,λi U=>?_)
 .rw[KA];show(h.nd,by simp,λa a4 b a5 e=>?_);rw[nA.mp a5] at e;show a0 (e ▸ a4)
 .intro i U;let q||q:=UA.mp U
  .show h.le i q
  .rw[nA.mp q];show Z
 .rw[Array.getElem?_setIfInBounds];by_cases q:j=i
  .subst q;rw[iA rfl,iA (by rw[h.sz];omega),iA (DA _ (nA.mpr rfl)),List.idxOf_append,gA a0];simp
  .rw[gA q,h.at_ i U];by_cases r:i∈F
   .rw[iA r,iA (xB _ r),List.idxOf_append,iA r]
   .rw[gA r,gA];intro J;let J||J:=UA.mp J
    .show r J
    .show q (nA.mp J).symm
section
variable {prog:Program} {w:World} {A:Around} {E:Value->Shared->Prop} {s:Shared} {a:Addr} {o:Obj} {items:Array Value} {n:Nat} {Q:Bool->Shared->Prop}
end
section
variable {prog:Program} {w:World} {K:Type} [DecidableEq K] {knd:KeyKind prog w K} {A:Around} {E:Value->Shared->Prop} {s:Shared} {S a:Addr} {o:Obj} {es:Array (Int×Value)} {ep:Nat} {t:SetTable} {k:!K}
end
section
variable {prog:Program} {w:World} {K:Type} [DecidableEq K] {knd:KeyKind prog w K} {A:Around} {E:Value->Shared->Prop} {s:Shared} {S a:Addr} {k:!K} {ks:!(!K)}
end
section
variable {prog:Program} {w:World} {K:Type} [DecidableEq K] {knd:KeyKind prog w K} {A:Around} {R:Result->Shared->Prop} {I:Addr} {fp wr:!Addr} {G:Array GenState->Array GenState->Prop} {n:Nat} {P:Nat->Value->Prop} {St:Nat->Shared->Prop}
end
section
variable {prog:Program} {w:World} {K:Type} [DecidableEq K] {knd:KeyKind prog w K} {A:Around} {E:Value->Shared->Prop} {s:Shared}
end
end ST
section
variable {prog:Program} {w:World} {A:Around} {R:Result->Shared->Prop} {I S:Addr} {fp wr:!Addr} {n:Nat} {P:Nat->Value->Prop} {St:Nat->Heap->Prop}
end
section
variable {prog:Program} {w:World} {A:Around} {E:Value->Shared->Prop} {s:Shared}
end
section
variable {prog:Program} {w:World} {A:Around} {E:Value->Shared->Prop} {s:Shared}
end
section
variable {prog:Program} {w:World} {A:Around} {E:Value->Shared->Prop} {s:Shared}
end
section
variable {P:Program} {w:World} {H H':Hp} {a:Addr} {x:Str} {v:V} {kvs:!(!Key×V)}
end
section
variable {X:Cx} {pins:!(Addr×Obj)} {σ:St} {H:Hp} {s:Shared} {a:Addr} {x:Str} {v:V} {kvs:!(!Key×V)}
variable {A:Around} {E:Value->Shared->Prop} {b:Addr} {k:!Key} {y d:V} {r:Value}
end
section
variable {X:Cx} {P:Program} {w:World} {o i e f value:Expr} {pos pos' apos cpos:Pos} {td ty tx tv:TE}
end
end L2
set_option hygiene false in
local macro_rules| `(tactic|walk_at "wp")=> `(tactic|((try dsimp only[L2.OK,L2.EN,L2.PK,L2.FN,L2.QK,L2.UM,L2.tNext,L2.KI,L2.BF,L2.VM,L2.jJ,L2.WM,L2.JV,L2.pJ,L2.tB,L2.wK,L2.NV,L2.sK,L2.aG,L2.tC,L2.rI,L2.oJ,L2.rU,L2.PM,L2.IV,L2.QM,L2.hJ,L2.iJ,L2.bI,L2.cH,L2.cI,L2.CQ,L2.qJ,L2.tNil,L2.rN,L2.qN,L2.OI,L2.AH,L2.DN,L2.iW,L2.oN,L2.pN,L2.eI,L2.rEq,L2.rNe,L2.HE,L2.iN,L2.jN,L2.MI,L2.DK,L2.zN,L2.EK,L2.FK,L2.N2,L2.M0,L2.N0,L2.O0,L2.rIxH,L2.I0,L2.K0,L2.HC,L2.dZ,L2.MJ,L2.rCat,L2.sN,L2.dW,L2.rJ,L2.P0,L2.Q0,L2.BJ,L2.nJ,L2.mJ,L2.FJ,L2.ZM,L2.gNil,L2.kJ,L2.lW,L2.rAppend,L2.dN,L2.rSetL,L2.gI,L2.tYes,Option.join_some,Option.join_none,PySem.sizeLine_eq,Nat.reduceLeDiff,wB,AA,cC,NA,List.length_nil,List.cons_append,List.nil_append,iC,List.replicate,Nat.reduceSub,Nat.reduceAdd,List.getElem?_cons_zero,List.getElem?_cons_succ,List.set_cons_zero,List.set_cons_succ,vB,lB,reduceIte,Int.reduceLE,Int.reduceLT,Nat.reducePow,Int.reducePow,Int.reduceNeg,L2.QQ,Nat.reduceLT,Int.reduceToNat,Int.reduceAdd,Int.reduceMul,Int.reduceSub]);try simp only[↓L2.OK, ↓L2.EN, ↓L2.PK, ↓L2.FN, ↓L2.QK,L2.UM,L2.tNext,L2.KI,L2.BF,L2.VM,L2.jJ,L2.WM,L2.JV,L2.pJ,L2.tB,L2.wK,L2.NV,L2.sK,L2.aG,L2.tC,L2.rI,L2.oJ,L2.rU,L2.PM,L2.IV,L2.QM,L2.hJ,L2.iJ,L2.bI,L2.cH,L2.cI,L2.CQ,L2.qJ,L2.tNil,L2.rN,L2.qN,L2.OI,L2.AH,L2.DN,L2.iW,L2.oN,L2.pN,L2.eI,L2.rEq,L2.rNe,L2.HE,L2.iN,L2.jN,L2.MI,L2.DK,L2.zN,L2.EK,L2.FK,L2.N2,L2.M0,L2.N0,L2.O0,L2.rIxH,L2.I0,L2.K0,L2.HC,L2.dZ,L2.HO.ins.injEq,L2.MJ,L2.rCat,L2.sN,L2.dW,L2.rJ,L2.P0,L2.Q0,L2.BJ,L2.nJ,L2.mJ,L2.FJ,L2.ZM,L2.gNil,L2.kJ,L2.lW,L2.rAppend,L2.dN,L2.rSetL,L2.gI,L2.tYes,Option.join_some,Option.join_none,PySem.sizeLine_eq,Nat.reduceLeDiff,eq_self,wB,
 AA,cC,NA,List.length_nil,List.cons_append,List.nil_append,iC,List.replicate,Nat.reduceSub,Nat.reduceAdd,List.getElem?_cons_zero,List.getElem?_cons_succ,List.set_cons_zero,List.set_cons_succ,
 vB,lB,L2.V.int.injEq,L2.V.bl.injEq,L2.V.ref.injEq,L2.V.ty.injEq,L2.V.str.injEq,exists_eq_left,exists_eq_left',exists_and_left,exists_eq',exists_const,and_assoc,and_true,true_and, ↓reduceIte,Int.reduceLE,Int.reduceLT,Nat.reducePow,Int.reducePow,Int.reduceNeg,L2.QQ,Nat.reduceLT,Int.reduceToNat,Int.reduceAdd,Int.reduceMul,Int.reduceSub,true_or,or_true,decide_true,decide_false]))
namespace Pf
open PySem L2
abbrev qR:Stmt:=TC 5
theorem uP:qC ["marks","hand","passed","place"] ["marks","hand"] (mC qR):=()
abbrev rR:Stmt:=oC (TC 7) 0
theorem j4:qC ["self","boxes","holder"] ["self","boxes","holder"] (mC rR):=()
abbrev sR:Stmt:=oC (TC 7) 1
theorem r4:qC ["self"] ["self"] (mC sR):=()
abbrev tR:Stmt:=oC (TC 7) 2
theorem K4:qC ["self"] ["self"] (mC tR):=()
abbrev uR:Stmt:=oC (TC 8) 0
theorem M4:qC ["self","many"] ["self","many"] (mC uR):=()
abbrev vR:Stmt:=oC (TC 8) 1
theorem wR:qC ["self","place","sheet"] ["self"] (mC vR):=()
abbrev xR:Stmt:=oC (TC 8) 2
theorem uX:qC ["self","twin"] ["self"] (mC xR):=()
abbrev yR:Stmt:=oC (TC 8) 3
theorem N4:qC ["self"] ["self"] (mC yR):=()
abbrev zR:Stmt:=oC (TC 10) 0
theorem O4:qC ["self","frames","slots","size"] ["self","frames","slots","size"] (mC zR):=()
abbrev AR:Stmt:=oC (TC 10) 1
theorem vX:qC ["self","sheet","holder","marks","way"] ["self","sheet","holder","marks"] (mC AR):=()
abbrev BR:Stmt:=oC (TC 10) 2
theorem DR:qC ["self","slot","marks","coming","way"] ["self","slot","marks"] (mC BR):=()
abbrev ER:Stmt:=oC (TC 10) 3
theorem wX:qC ["self","spot","holder","sheet"] ["self","spot","holder"] (mC ER):=()
abbrev FR:Stmt:=oC (TC 10) 4
theorem xX:qC ["self","spot","holder","sheet"] ["self","spot","holder"] (mC FR):=()
abbrev GR:Stmt:=oC (TC 10) 5
theorem yX:qC ["self","spot","sheet"] ["self","spot"] (mC GR):=()
abbrev HR:Stmt:=oC (TC 10) 7
theorem zX:qC ["self","spot","sheet"] ["self","spot"] (mC HR):=()
abbrev IR:Stmt:=oC (TC 10) 8
theorem P4:qC ["self","frame","box"] ["self","frame","box"] (mC IR):=()
abbrev JR:Stmt:=oC (TC 10) 9
theorem Q4:qC ["self","frame","box","value"] ["self","frame","box","value"] (mC JR):=()
abbrev KR:Stmt:=oC (TC 10) 10
theorem sM:qC ["self","first_by_boxes","gone","spot","sheet","first"] ["self"] (mC KR):=()
abbrev LR:Stmt:=oC (TC 10) 11
theorem R4:qC ["self"] ["self"] (mC LR):=()
abbrev MR:Stmt:=oC (TC 10) 12
theorem S4:qC ["self"] ["self"] (mC MR):=()
abbrev NR:Stmt:=oC (TC 10) 13
theorem T4:qC ["self"] ["self"] (mC NR):=()
abbrev OR:Stmt:=oC (TC 10) 14
theorem vP:qC ["self","told","frame","sheet"] ["self"] (mC OR):=()
abbrev PR:Stmt:=oC (TC 10) 15
theorem U4:qC ["self"] ["self"] (mC PR):=()
abbrev QR:Stmt:=oC (TC 10) 17
theorem AX:qC ["self","spot","spots"] ["self","spot"] (mC QR):=()
abbrev SR:Stmt:=oC (TC 10) 18
theorem BX:qC ["self","frames"] ["self"] (mC SR):=()
abbrev TR:Stmt:=oC (TC 10) 19
theorem UR:qC ["self","slot","sheet","frame"] ["self","slot"] (mC TR):=()
abbrev VR:Stmt:=oC (TC 10) 20
theorem DX:qC ["self","spot","other","holder"] ["self","spot","other"] (mC VR):=()
abbrev WR:Stmt:=oC (TC 10) 21
theorem X4:qC ["self","spot"] ["self","spot"] (mC WR):=()
abbrev YR:Stmt:=oC (TC 10) 22
theorem EX:qC ["self","frame","slot"] ["self","frame"] (mC YR):=()
abbrev ZR:Stmt:=oC (TC 10) 23
theorem aS:qC ["self","coming_from","marks","frame","choice"] ["self","coming_from","marks"] (mC ZR):=()
abbrev bS:Stmt:=oC (TC 10) 24
theorem cS:qC ["self","frame","coming_from","sheet","slot"] ["self","frame","coming_from"] (mC bS):=()
abbrev dS:Stmt:=oC (TC 10) 25
theorem eS:qC ["self","frame","coming_from","empty","twin"] ["self","frame","coming_from"] (mC dS):=()
abbrev gS:Stmt:=TC 12
theorem Y4:qC ["_law_script","_law_k"] ["_law_script","_law_k"] (mC gS):=()
abbrev iS:Stmt:=TC 13
theorem jS:qC ["_law_found","_law_due","_law_k"] ["_law_found","_law_due"] (mC iS):=()
abbrev kS:Stmt:=TC 14
theorem IH:qC ["_law_plain","_law_marks","_law_slot","_law_frames","_law_slots","_law_k","_law_passed","_law_at","_law_goal"] ["_law_plain","_law_marks","_law_slot"] (mC kS):=()
abbrev lS:Stmt:=TC 15
theorem mS:qC ["_law_found","_law_row","_law_due","_law_one"] ["_law_found","_law_row"] (mC lS):=()
abbrev nS:Stmt:=TC 16
theorem Z4:qC ["_law_plain","_law_frame"] ["_law_plain","_law_frame"] (mC nS):=()
abbrev oS:Stmt:=TC 17
theorem FX:qC ["_law_plain","_law_word","_law_row"] ["_law_plain","_law_word"] (mC oS):=()
abbrev pS:Stmt:=TC 18
theorem HX:qC ["_law_plain","_law_sheet_here","_law_holder","_law_marks","_law_got"] ["_law_plain","_law_sheet_here","_law_holder","_law_marks"] (mC pS):=()
abbrev qS:Stmt:=TC 19
theorem rS:qC ["_law_plain","_law_slot","_law_marks","_law_coming","_law_got"] ["_law_plain","_law_slot","_law_marks"] (mC qS):=()
abbrev sS:Stmt:=TC 20
theorem uS:qC ["_law_plain","_law_spot","_law_at","_law_row","_law_holder"] ["_law_plain","_law_spot","_law_at"] (mC sS):=()
abbrev vS:Stmt:=TC 21
theorem QJ:qC ["_law_plain","_law_spots","_law_moves","_law_firsts","_law_spot","_law_row","_law_one","_law_first"] ["_law_plain"] (mC vS):=()
abbrev wS:Stmt:=TC 22
theorem xS:qC ["_law_sheets","_law_sheet_here","_law_holder","_law_marks","_law_found"] ["_law_sheets","_law_sheet_here","_law_holder","_law_marks"] (mC wS):=()
abbrev yS:Stmt:=TC 23
theorem BI:qC ["_law_sheets","_law_plain","_law_held","_law_way","_law_number_here","_law_sheet_here","_law_holder","_law_marks","_law_full","_law_some","_law_slot","_law_frame","_law_box","_law_boxes","_law_spot","_law_gone"] ["_law_sheets","_law_plain","_law_held","_law_way","_law_number_here","_law_sheet_here","_law_holder","_law_marks"] (mC yS):=()
abbrev zS:Stmt:=TC 24
theorem IX:qC ["_law_digits","_law_cell_here","_law_k","_law_one"] ["_law_digits","_law_cell_here","_law_k"] (mC zS):=()
abbrev AS:Stmt:=TC 25
theorem i5:qC ["_law_rest","_law_size_here"] ["_law_rest","_law_size_here"] (mC AS):=()
abbrev BS:Stmt:=TC 26
theorem ZI:qC ["_law_sheets","_law_plain","_law_held","_law_number_here","_law_k","_law_size_here","_law_marks","_law_rest","_law_sheet_here","_law_holder","_law_way","_law_good"] ["_law_sheets","_law_plain","_law_held","_law_number_here","_law_k","_law_size_here"] (mC BS):=()
abbrev CS:Stmt:=TC 27
theorem j5:qC ["_law_cell_here","_law_low","_law_most"] ["_law_cell_here","_law_low","_law_most"] (mC CS):=()
abbrev wP:Stmt:=TC 28
theorem LF:qC ["_law_script","_law_size_here","_law_both","_law_k","_law_cell_here","_law_frames","_law_slots","_law_plain","_law_j","_law_sheet_here","_law_held","_law_digits","_law_number_here","_law_found","_law_due","_law_sheets","_law_many"] ["_law_script"] (mC wP):=()
set_option genInjectivity false in
structure cE where
 Ac:Addr
 Ad:Addr
 Aa:Addr
 A8:Addr
 Am:Addr
structure LD (K:W.Frag) (mg:Str->Option Value) (A:cE):Prop where
 Gz:mg "any"=none
 Em:mg "bool"=none
 Bd:mg "enumerate"=none
 Bf:mg "int"=none
 Ao:mg "isinstance"=none
 Aj:mg "len"=none
 A7:mg "list"=none
 Aq:mg "range"=none
 Cz:mg "sorted"=none
 Gf:mg "str"=none
 Ck:mg "tuple"=none
 Gg:ZF K mg "swept" "swept" qR ["marks","hand"] []
 Fq:ZF K mg "_law_cell" "_law_cell" gS ["_law_script","_law_k"] []
 En:ZF K mg "_law_like" "_law_like" iS ["_law_found","_law_due"] []
 Gi:ZF K mg "_law_out" "_law_out" kS ["_law_plain","_law_marks","_law_slot"] []
 Fr:ZF K mg "_law_told" "_law_told" lS ["_law_found","_law_row"] []
 D8:ZF K mg "_law_untwinned" "_law_untwinned" nS ["_law_plain","_law_frame"] []
 Ey:ZF K mg "_law_places" "_law_places" oS ["_law_plain","_law_word"] []
 Fa:ZF K mg "_law_fresh" "_law_fresh" pS ["_law_plain","_law_sheet_here","_law_holder","_law_marks"] []
 Ft:ZF K mg "_law_back" "_law_back" qS ["_law_plain","_law_slot","_law_marks"] []
 Ez:ZF K mg "_law_let_go" "_law_let_go" sS ["_law_plain","_law_spot","_law_at"] []
 E1:ZF K mg "_law_folded" "_law_folded" vS ["_law_plain"] []
 Fb:ZF K mg "_law_asked" "_law_asked" wS ["_law_sheets","_law_sheet_here","_law_holder","_law_marks"] []
 Fu:ZF K mg "_law_more" "_law_more" yS ["_law_sheets","_law_plain","_law_held","_law_way","_law_number_here","_law_sheet_here","_law_holder","_law_marks"] []
 E2:ZF K mg "_law_number" "_law_number" zS ["_law_digits","_law_cell_here","_law_k"] []
 Fc:ZF K mg "_law_sheet" "_law_sheet" AS ["_law_rest","_law_size_here"] []
 Fv:ZF K mg "_law_deed" "_law_deed" BS ["_law_sheets","_law_plain","_law_held","_law_number_here","_law_k","_law_size_here"] []
 Fw:ZF K mg "_law_size" "_law_size" CS ["_law_cell_here","_law_low","_law_most"] []
 An:OG K A.Ac
 At:pD K A.Ac "boxes"
 Au:pD K A.Ac "holders"
 Eo:DH K mg "Sheet" A.Ac "Sheet.__init__" rR ["self","boxes","holder"] []
 Bg:DD K A.Ac "told_holders" "Sheet.told_holders" sR ["self"] []
 Cl:DD K A.Ac "is_banked" "Sheet.is_banked" tR ["self"] []
 Af:OG K A.Ad
 Ag:pD K A.Ad "lying"
 Ai:pD K A.Ad "twins"
 Ep:DH K mg "Spots" A.Ad "Spots.__init__" uR ["self","many"] []
 Bn:DD K A.Ad "first_empty" "Spots.first_empty" vR ["self"] []
 Bz:DD K A.Ad "first_twin" "Spots.first_twin" xR ["self"] []
 B0:DD K A.Ad "live_count" "Spots.live_count" yR ["self"] []
 Ab:OG K A.Aa
 Dy:pD K A.Aa "size"
 Ae:pD K A.Aa "frames"
 Ah:pD K A.Aa "slots"
 A6:pD K A.Aa "hand"
 A4:pD K A.Aa "gone_out"
 Aw:pD K A.Aa "gone_astray"
 Az:pD K A.Aa "come_back"
 D9:DH K mg "Sheets" A.Aa "Sheets.__init__" zR ["self","frames","slots","size"] []
 Dz:DD K A.Aa "fresh" "Sheets.fresh" AR ["self","sheet","holder","marks"] []
 Ea:DD K A.Aa "back" "Sheets.back" BR ["self","slot","marks"] []
 Eb:DD K A.Aa "hold" "Sheets.hold" ER ["self","spot","holder"] []
 Dq:DD K A.Aa "let_go" "Sheets.let_go" FR ["self","spot","holder"] []
 Bo:DD K A.Aa "holders_of" "Sheets.holders_of" GR ["self","spot"] []
 Cm:DD K A.Aa "sheet_at" "Sheets.sheet_at" HR ["self","spot"] []
 Dr:DD K A.Aa "box_of" "Sheets.box_of" IR ["self","frame","box"] []
 C8:DD K A.Aa "set_box" "Sheets.set_box" JR ["self","frame","box","value"] []
 Ec:DD K A.Aa "fold" "Sheets.fold" KR ["self"] []
 Bh:DD K A.Aa "live_sheets" "Sheets.live_sheets" LR ["self"] []
 C9:DD K A.Aa "is_full" "Sheets.is_full" MR ["self"] []
 Da:DD K A.Aa "hand_at" "Sheets.hand_at" NR ["self"] []
 Bi:DD K A.Aa "told_frames" "Sheets.told_frames" OR ["self"] []
 Bp:DD K A.Aa "told_slots" "Sheets.told_slots" PR ["self"] []
 Cn:DD K A.Aa "lying_at" "Sheets.lying_at" QR ["self","spot"] []
 B1:DD K A.Aa "all_spots" "Sheets.all_spots" SR ["self"] []
 B2:DD K A.Aa "told_slot" "Sheets.told_slot" TR ["self","slot"] []
 B3:DD K A.Aa "hand_over" "Sheets.hand_over" VR ["self","spot","other"] []
 Bq:DD K A.Aa "make_empty" "Sheets.make_empty" WR ["self","spot"] []
 B4:DD K A.Aa "lose_twin" "Sheets.lose_twin" YR ["self","frame"] []
 B5:DD K A.Aa "frame_for" "Sheets.frame_for" ZR ["self","coming_from","marks"] []
 Db:DD K A.Aa "put_out" "Sheets.put_out" bS ["self","frame","coming_from"] []
 Co:DD K A.Aa "slot_for" "Sheets.slot_for" dS ["self","frame","coming_from"] []
 Gu:∃u,mg "FrameError">u/\DC (.ref A.A8) u
 Hc:∃u,mg "NoRoom">u/\DC (.ref A.Am) u
 Fx:XH K mg "NoRoom" A.Am
 Fy:XC K mg "NoRoom" A.Am
 Cp:UI K A.Am A.Am
 Ha:∃f fd,mg "law"=↑f/\bH K "law" "law" wP f fd/\∀(s:Shared) (u:Value),BindsTo s fd ⟨[u],[]⟩ [("_law_script",u)]
theorem JH {P:!Value->Prop} (h:∀a0,P [a0]):∀us:!Value,us.length=1->P us:=by
 intro us e;cases us with
 |nil=>cases e
 |cons a us=>
  cases us with
  |nil=>show h a
  |cons b us=>show absurd e (by simp)
theorem oH {P:!Value->Prop} (h:∀a0 j,P [a0,j]):∀us:!Value,us.length=2->P us:=by
 intro us e;cases us with
 |nil=>cases e
 |cons a us=>show JH (P:=λus=>P (a::us)) (λq=>h a q) us (Nat.succ.inj e)
theorem pH {P:!Value->Prop} (h:∀a0 j q,P [a0,j,q]):∀us:!Value,us.length=3->P us:=by
 intro us e;cases us with
 |nil=>cases e
 |cons a us=>show oH (P:=λus=>P (a::us)) (λD F=>h a D F) us (Nat.succ.inj e)
theorem RN {P:!Value->Prop} (h:∀a0 j q D,P [a0,j,q,D]):∀us:!Value,us.length=4->P us:=by
 intro us e;cases us with
 |nil=>cases e
 |cons a us=>show pH (P:=λus=>P (a::us)) (λF J O=>h a F J O) us (Nat.succ.inj e)
theorem o5 {P:!Value->Prop} (h:∀a0 a1 a2 a3 a4 a5,P [a0,a1,a2,a3,a4,a5]):∀us:!Value,us.length=6->P us
 |[a0,a1,a2,a3,a4,a5],_=>h a0 a1 a2 a3 a4 a5
theorem p5 {P:!Value->Prop} (h:∀a0 a1 a2 a3 a4 a5 a6 a7,P [a0,a1,a2,a3,a4,a5,a6,a7]):∀us:!Value,us.length=8->P us
 |[a0,a1,a2,a3,a4,a5,a6,a7],_=>h a0 a1 a2 a3 a4 a5 a6 a7
theorem eL {K:W.Frag} {h:Heap} {mg:Str->Option Value} (X:K.In h) (G:h.Ns mainGlobals mg)
 {F O j q D:Addr}
 {cg:ClassData}
 (J:W.nsIn K mainGlobals "NoRoom">(↑F))
 (bb:W.nsIn K mainGlobals "FrameError">(↑O))
 (bz:W.nsIn K mainGlobals "Sheets">(↑j))
 (c2:W.nsIn K mainGlobals "Spots">(↑q))
 (c3:W.nsIn K mainGlobals "Sheet">(↑D))
 (cb:W.nsIn K mainGlobals "any">none)
 (c4:W.nsIn K mainGlobals "bool">none)
 (bc:W.nsIn K mainGlobals "enumerate">none)
 (cc:W.nsIn K mainGlobals "int">none)
 (b5:W.nsIn K mainGlobals "isinstance">none)
 (cd:W.nsIn K mainGlobals "len">none)
 (c5:W.nsIn K mainGlobals "list">none)
 (bf:W.nsIn K mainGlobals "range">none)
 (bp:W.nsIn K mainGlobals "sorted">none)
 (ce:W.nsIn K mainGlobals "str">none)
 (bg:W.nsIn K mainGlobals "tuple">none)
 (c7:GF K "swept" qR)
 (bh:GF K "_law_cell" gS)
 (bi:GF K "_law_like" iS)
 (c8:GF K "_law_out" kS)
 (bj:GF K "_law_told" lS)
 (b6:GF K "_law_untwinned" nS)
 (b1:GF K "_law_places" oS)
 (bq:GF K "_law_fresh" pS)
 (bl:GF K "_law_back" qS)
 (b2:GF K "_law_let_go" sS)
 (b3:GF K "_law_folded" vS)
 (br:GF K "_law_asked" wS)
 (bm:GF K "_law_more" yS)
 (b4:GF K "_law_number" zS)
 (bt:GF K "_law_sheet" AS)
 (bn:GF K "_law_deed" BS)
 (c0:GF K "_law_size" CS)
 (c9:OG K D)
 (ai:W.findIn K (.ref D) "boxes">none)
 (ap:W.findIn K (.ref D) "holders">none)
 (bd:IF K D "Sheet.__init__" rR)
 (a2:MF K D "told_holders" "Sheet.told_holders" sR)
 (ae:MF K D "is_banked" "Sheet.is_banked" tR)
 (ca:OG K q)
 (aj:W.findIn K (.ref q) "lying">none)
 (ak:W.findIn K (.ref q) "twins">none)
 (be:IF K q "Spots.__init__" uR)
 (a5:MF K q "first_empty" "Spots.first_empty" vR)
 (U:MF K q "first_twin" "Spots.first_twin" xR)
 (V:MF K q "live_count" "Spots.live_count" yR)
 (c1:OG K j)
 (al:W.findIn K (.ref j) "size">none)
 (aq:W.findIn K (.ref j) "frames">none)
 (ay:W.findIn K (.ref j) "slots">none)
 (am:W.findIn K (.ref j) "hand">none)
 (Z:W.findIn K (.ref j) "gone_out">none)
 (a1:W.findIn K (.ref j) "gone_astray">none)
 (a6:W.findIn K (.ref j) "come_back">none)
 (b7:IF K j "Sheets.__init__" zR)
 (ao:MF K j "fresh" "Sheets.fresh" AR)
 (b8:MF K j "back" "Sheets.back" BR)
 (b9:MF K j "hold" "Sheets.hold" ER)
 (az:MF K j "let_go" "Sheets.let_go" FR)
 (a7:MF K j "holders_of" "Sheets.holders_of" GR)
 (af:MF K j "sheet_at" "Sheets.sheet_at" HR)
 (b0:MF K j "box_of" "Sheets.box_of" IR)
 (ar:MF K j "set_box" "Sheets.set_box" JR)
 (ba:MF K j "fold" "Sheets.fold" KR)
 (a3:MF K j "live_sheets" "Sheets.live_sheets" LR)
 (au:MF K j "is_full" "Sheets.is_full" MR)
 (av:MF K j "hand_at" "Sheets.hand_at" NR)
 (a4:MF K j "told_frames" "Sheets.told_frames" OR)
 (a8:MF K j "told_slots" "Sheets.told_slots" PR)
 (ag:MF K j "lying_at" "Sheets.lying_at" QR)
 (a0:MF K j "all_spots" "Sheets.all_spots" SR)
 (aa:MF K j "told_slot" "Sheets.told_slot" TR)
 (ab:MF K j "hand_over" "Sheets.hand_over" VR)
 (a9:MF K j "make_empty" "Sheets.make_empty" WR)
 (ac:MF K j "lose_twin" "Sheets.lose_twin" YR)
 (ad:MF K j "frame_for" "Sheets.frame_for" ZR)
 (aw:MF K j "put_out" "Sheets.put_out" bS)
 (ah:MF K j "slot_for" "Sheets.slot_for" dS)
 (bu:W.typeIn K (.ref F)>(.type "type"))
 (bv:W.clsIn K F>cg)
 (bw:W.mroIn K F (.type "BaseException")>true)
 (bx:W.excIn K F AJ "ValueError.__new__"=true)
 (ax:W.mroIn K F (.ref F)>true)
 (cf:GF K "law" wP)
 :∃A:cE,LD K mg A:=((D,q,j,O,F),W.mg_none_of X G cb,
  W.mg_none_of X G c4,
  W.mg_none_of X G bc,
  W.mg_none_of X G cc,
  W.mg_none_of X G b5,
  W.mg_none_of X G cd,
  W.mg_none_of X G c5,
  W.mg_none_of X G bf,
  W.mg_none_of X G bp,
  W.mg_none_of X G ce,
  W.mg_none_of X G bg,
  c7.raw X G (λο ο ο ο ο ο=>oH (λο ο=>rfl)),
  bh.raw X G (λο ο ο ο ο ο=>oH (λο ο=>rfl)),
  bi.raw X G (λο ο ο ο ο ο=>oH (λο ο=>rfl)),
  c8.raw X G (λο ο ο ο ο ο=>pH (λο ο ο=>rfl)),
  bj.raw X G (λο ο ο ο ο ο=>oH (λο ο=>rfl)),
  b6.raw X G (λο ο ο ο ο ο=>oH (λο ο=>rfl)),
  b1.raw X G (λο ο ο ο ο ο=>oH (λο ο=>rfl)),
  bq.raw X G (λο ο ο ο ο ο=>RN (λο ο ο ο=>rfl)),
  bl.raw X G (λο ο ο ο ο ο=>pH (λο ο ο=>rfl)),
  b2.raw X G (λο ο ο ο ο ο=>pH (λο ο ο=>rfl)),
  b3.raw X G (λο ο ο ο ο ο=>JH (λο=>rfl)),
  br.raw X G (λο ο ο ο ο ο=>RN (λο ο ο ο=>rfl)),
  bm.raw X G (λο ο ο ο ο ο=>p5 (λο ο ο ο ο ο ο ο=>rfl)),
  b4.raw X G (λο ο ο ο ο ο=>pH (λο ο ο=>rfl)),
  bt.raw X G (λο ο ο ο ο ο=>oH (λο ο=>rfl)),
  bn.raw X G (λο ο ο ο ο ο=>o5 (λο ο ο ο ο ο=>rfl)),
  c0.raw X G (λο ο ο ο ο ο=>pH (λο ο ο=>rfl)),
  c9,
  ai,
  ap,
  bd.raw X G c3 (λο ο ο ο ο ο=>pH (λο ο ο=>rfl)),
  a2.raw (λο ο ο ο ο ο=>JH (λο=>rfl)),
  ae.raw (λο ο ο ο ο ο=>JH (λο=>rfl)),
  ca,
  aj,
  ak,
  be.raw X G c2 (λο ο ο ο ο ο=>oH (λο ο=>rfl)),
  a5.raw (λο ο ο ο ο ο=>JH (λο=>rfl)),
  U.raw (λο ο ο ο ο ο=>JH (λο=>rfl)),
  V.raw (λο ο ο ο ο ο=>JH (λο=>rfl)),
  c1,
  al,
  aq,
  ay,
  am,
  Z,
  a1,
  a6,
  b7.raw X G bz (λο ο ο ο ο ο=>RN (λο ο ο ο=>rfl)),
  ao.raw (λο ο ο ο ο ο=>RN (λο ο ο ο=>rfl)),
  b8.raw (λο ο ο ο ο ο=>pH (λο ο ο=>rfl)),
  b9.raw (λο ο ο ο ο ο=>pH (λο ο ο=>rfl)),
  az.raw (λο ο ο ο ο ο=>pH (λο ο ο=>rfl)),
  a7.raw (λο ο ο ο ο ο=>oH (λο ο=>rfl)),
  af.raw (λο ο ο ο ο ο=>oH (λο ο=>rfl)),
  b0.raw (λο ο ο ο ο ο=>pH (λο ο ο=>rfl)),
  ar.raw (λο ο ο ο ο ο=>RN (λο ο ο ο=>rfl)),
  ba.raw (λο ο ο ο ο ο=>JH (λο=>rfl)),
  a3.raw (λο ο ο ο ο ο=>JH (λο=>rfl)),
  au.raw (λο ο ο ο ο ο=>JH (λο=>rfl)),
  av.raw (λο ο ο ο ο ο=>JH (λο=>rfl)),
  a4.raw (λο ο ο ο ο ο=>JH (λο=>rfl)),
  a8.raw (λο ο ο ο ο ο=>JH (λο=>rfl)),
  ag.raw (λο ο ο ο ο ο=>oH (λο ο=>rfl)),
  a0.raw (λο ο ο ο ο ο=>JH (λο=>rfl)),
  aa.raw (λο ο ο ο ο ο=>oH (λο ο=>rfl)),
  ab.raw (λο ο ο ο ο ο=>pH (λο ο ο=>rfl)),
  a9.raw (λο ο ο ο ο ο=>oH (λο ο=>rfl)),
  ac.raw (λο ο ο ο ο ο=>oH (λο ο=>rfl)),
  ad.raw (λο ο ο ο ο ο=>pH (λο ο ο=>rfl)),
  aw.raw (λο ο ο ο ο ο=>pH (λο ο ο=>rfl)),
  ah.raw (λο ο ο ο ο ο=>pH (λο ο ο=>rfl)),
  (_,W.mg_of X G bb,rfl),
  (_,W.mg_of X G J,rfl),
  (W.mg_of X G J,bu,⟨_,bv⟩,bw),
  ⟨W.mg_of X G J,bx⟩,
  ax,
  cf.law X G λο ο ο ο ο ο ο=>rfl)
section
variable {P:Program} {w:World} {K:W.Frag} {mg:Str->Option Value} {base:Heap} {A:cE}
theorem DS {a0 U V W Z a1:Type} {p:a0->U->V->W->Z->a1->Prop} (j:a0) (q:U) (D:V) (F:W) (J:Z) (O:a1) (h:p j q D F J O):∃j q D F J O,p j q D F J O:=(j,q,D,F,J,O,h)
theorem ES {a0 W Z a1 a2 a3 a4 a5:Type} {p:a0->W->Z->a1->a2->a3->a4->a5->Prop} (j:a0) (q:W) (D:Z) (F:a1) (J:a2) (O:a3) (U:a4) (V:a5) (h:p j q D F J O U V):∃j q D F J O U V,p j q D F J O U V:=(j,q,D,F,J,O,U,V,h)
theorem SN {a0 a1 a2 a3 a4 a5 a6 a7 a8 a9:Type} {p:a0->a1->a2->a3->a4->a5->a6->a7->a8->a9->Prop} (j:a0) (q:a1) (D:a2) (F:a3) (J:a4) (O:a5) (U:a6) (V:a7) (W:a8) (Z:a9) (h:p j q D F J O U V W Z):∃j q D F J O U V W Z,p j q D F J O U V W Z:=(j,q,D,F,J,O,U,V,W,Z,h)
theorem qF {H j:Hp} {t:Addr} {o:HO} (s:pC H j) (h:H t=none):pC H (upd j t o):=λb u e=>by
 rw[sC (mE e h)];show s b u e
theorem xD {H j:Hp} {p:Addr} (s:pC H j) (h:j p=none):H p=none:=by
 cases e:H p with
 |none=>rfl
 |some o=>rw[s p o e] at h;cases h
def t5 (K:W.Frag) (a:Addr) (ns:!Int):Sp:=λvs H Q ο=>∃(k:Int),vs=[.ref a,.int k]/\uC K H a (ns.map V.int)/\0<=k/\Q (.int (ns.getD k.toNat 0)) H
theorem fL (T:LD K mg A) (a:Addr) (ns:!Int):oE P w K mg base "_law_cell" 1 ["_law_script","_law_k"] [] (t5 K a ns):=by
 show T.Fq.have Y4 (λvs H Q E j=>?_) ?_
 .let(k,rfl,_):=j;rfl
 .intro f U O a0 s H vs Q E Z j;let(k,rfl,D,W,q):=j;show(_,(OC (JD (CD jP (lC 1) (MD BE rfl T.Aj PySem.boot_len (nC (lC 0) wC)) (rC _)) (FC (sD (BC LC (lC 0) (lC 1) (λο ο=>rfl)))) KD)
   (FC (sD yC))),?_)
  rfl';show(ns.length,.inl (_,D,by simp),?_);by_cases c:k < (ns.length:Int)
  .rw[iA c];show(_,D,.int (ns.getD k.toNat 0),?_,q);let J:k.toNat < ns.length:=⋯;let e:WF (ns.map V.int) ((k.toNat:Nat):Int)>(.int (ns.getD k.toNat 0)):=CC (by simp[J]);rw[show ((k.toNat:Nat):Int)=k by omega] at e;show e
  .rw[gA c];let F:ns.length<=k.toNat:=⋯;rw[show ns.getD k.toNat 0=0 by simp[List.getD,F]] at q;show q
def K5:V->Bool
 |.non=>true
 |.bl _=>true
 |.int _=>true
 |.str _=>true
 |_=>false
mutual
noncomputable def yD (H:Hp):Dv->V->Prop
 |.leaf v,x=>x=v/\K5 v=true
 |.seq t ds,x=>∃a xs,x=.ref a/\H a>(if t=true then .tup xs else .lst xs)/\ds.length < 16777216/\NC H ds xs
noncomputable def NC (H:Hp):!Dv->!V->Prop
 |[],xs=>xs=[]
 |d::ds,xs=>∃x r,xs=x::r/\yD H d x/\NC H ds r
end
theorem NC.len {H:Hp}:∀{ds:!Dv} {xs:!V},NC H ds xs->xs.length=ds.length
 |[],xs,h=>by unfold NC at h;subst h;rfl
 |d::ds,xs,h=>by
  unfold NC at h;let(x,r,rfl,_,h):=h;simp[h.len]
theorem NC.at {H:Hp}:∀{ds:!Dv} {xs:!V} {i:Nat} {d:Dv},NC H ds xs->ds[i]?>d->∃x,xs[i]?>x/\yD H d x
 |[],_,_,_,_,h=>by simp at h
 |d::ds,xs,0,e,h,hi=>by
  unfold NC at h;let(x,r,rfl,hx,_):=h;simp at hi;subst hi;show(x,rfl,hx)
 |d::ds,xs,i+1,e,h,hi=>by
  unfold NC at h;let(x,r,rfl,_,h):=h;simp at hi;let(y,hy,hl):=h.at hi;show(y,by simpa using hy,hl)
theorem JX:∀{ds:!Dv} {i:Nat} {d:Dv},ds[i]?>d->RC d<=AC ds
 |[],_,_,h=>by simp at h
 |d::ds,0,e,h=>by
  simp at h;subst h;rw[AC];show Nat.le_max_left ..
 |d::ds,i+1,e,h=>by
  simp at h;rw[AC];show kB (JX h) (Nat.le_max_right ..)
mutual
theorem yD.same {H H':Hp}:∀{d:Dv} {x:V},yD H d x->pC H H'->yD H' d x
 |.leaf v,x,h,_=>by unfold yD at h ⊢;show h
 |.seq t ds,x,h,s=>by
  unfold yD at h ⊢;let(a,xs,e,ha,hz,hl):=h;show(a,xs,e,s _ _ ha,hz,hl.same s)
theorem NC.same {H H':Hp}:∀{ds:!Dv} {xs:!V},NC H ds xs->pC H H'->NC H' ds xs
 |[],xs,h,_=>by unfold NC at h ⊢;show h
 |d::ds,xs,h,s=>by
  unfold NC at h ⊢;let(x,r,e,hx,hl):=h;show(x,r,e,hx.same s,hl.same s)
end
def FS:Nat->Sp
 |0=>λο ο ο ο=>False
 |n+1=>λvs H Q ο=>∃(x y:V) (d:Dv),vs=[x,y]/\yD H d x/\yD H d y/\RC d<=n/\∀H',pC H H'->Q (.bl true) H'
theorem RJ {H:Hp} {a:Addr} {o:HO} {n:String} (h:H a>o) (e:(DF (some o) == n || (DF (some o) == "bool"&&n == "int"))=false):dH n H (.ref a)=false:=by
 unfold dH;rw[show kd H (.ref a)=DF (H a) from rfl,h];show e
theorem xP (T:LD K mg A):∀n,oE P w K mg base "_law_like" (n+1) ["_law_found","_law_due"] [] (FS n):=by
 intro n
 induction n with
 |zero=>show T.En.have jS (λvs H Q E J=>J.elim) (λο ο ο ο ο ο ο ο ο ο J=>J.elim)
 |succ n al=>
  let ae:=al;show T.En.have jS (λvs H Q E J=>?_) ?_
  .let(x,y,ab,rfl,_):=J;rfl
  .intro f ao am au s H vs Q E ah J;let(x,y,ab,rfl,a5,a6,hd,q):=J;show(_,(OC (JD (CD yG (lC 1) BD (rC _)) (FC (sD (xH yG (lC 0) BD (rC _)))) KD)
   (OC (JD (gG (MD fI rfl T.Ao QA (nC (lC 1) (nC (dI (n:="bool") rfl T.Em PyProof.Rows.boot_bool) wC)))) (FC (sD (TM (MD fI rfl T.Ao QA (nC (lC 0) (nC (dI (n:="bool") rfl T.Em PyProof.Rows.boot_bool) wC))) (dP (xH bF (lC 0) (lC 1) (rC _)))))) KD)
   (OC (JD (gG (MD fI rfl T.Ao QA (nC (lC 1) (nC (dI (n:="int") rfl T.Bf DB) wC)))) (FC (sD (TM (MD fI rfl T.Ao QA (nC (lC 0) (nC (dI (n:="int") rfl T.Bf DB) wC))) (TM (uK (MD fI rfl T.Ao QA (nC (lC 0) (nC (dI (n:="bool") rfl T.Em PyProof.Rows.boot_bool) wC)))) (dP (xH bF (lC 0) (lC 1) (rC _))))))) KD)
   (OC (JD (gG (MD fI rfl T.Ao QA (nC (lC 1) (nC (dI (n:="str") rfl T.Gf PyProof.Rows.boot_str) wC)))) (FC (sD (TM (MD fI rfl T.Ao QA (nC (lC 0) (nC (dI (n:="str") rfl T.Gf PyProof.Rows.boot_str) wC))) (dP (xH bF (lC 0) (lC 1) (rC _)))))) KD)
   (AD (JD (PW.pt (uH (gG (MD fI rfl T.Ao QA (nC (lC 1) (nC (dI (n:="list") rfl T.A7 bB) wC)))) (tH (yI (gG (MD fI rfl T.Ao QA (nC (lC 0) (nC (dI (n:="list") rfl T.A7 bB) wC)))))))) (FC (sD NG)) KD)
   (AD (JD (PW.pt (uH (gG (MD fI rfl T.Ao QA (nC (lC 1) (nC (dI (n:="tuple") rfl T.Ck PyProof.Rows.boot_tuple) wC)))) (tH (yI (gG (MD fI rfl T.Ao QA (nC (lC 0) (nC (dI (n:="tuple") rfl T.Ck PyProof.Rows.boot_tuple) wC)))))))) (FC (sD NG)) KD)
   (OC (JD (CD iP (MD BE rfl T.Aj PySem.boot_len (nC (lC 0) wC)) (MD BE rfl T.Aj PySem.boot_len (nC (lC 1) wC)) (rC _)) (FC (sD NG)) KD)
   (OC (DG RA rfl (iG rfl T.Aq (nC (MD BE rfl T.Aj PySem.boot_len (nC (lC 1) wC)) wC)) (jE (i:=2) jS.nd rfl (Or.inl rfl)) (FC (JD (yI (gG (XD ae (ah.mono ⋯) WC (nC (BC LW (lC 0) (lC 2) (λο ο=>rfl)) (nC (BC LW (lC 1) (lC 2) (λο ο=>rfl)) wC))))) (FC (sD NG)) KD)))
   (FC (sD NG)))))))))),?_)
   cases ab with
   |leaf v=>
    unfold yD at a5 a6;let(ex,ai):=a5;let(af,_):=a6;subst ex;subst af;cases y with
    |non=>
     rfl';show q _ vD
    |bl b=>
     rfl';rw[gA nofun];show⟨by decide,nE ⟨by decide,nE (q _ vD)⟩⟩
    |int i=>
     rfl';rw[gA nofun];show⟨by decide,iD ⟨by decide,nE ⟨by decide,nE ⟨by decide,nE (q _ vD)⟩⟩⟩⟩
    |str t=>
     rfl';rw[gA nofun];show⟨by decide,iD ⟨by decide,iD ⟨by decide,nE ⟨by decide,nE (q _ vD)⟩⟩⟩⟩
    |_=>cases ai
   |seq t ds=>
    unfold yD at a5 a6;let(a,xs,rfl,U,ar,ac):=a5;let(b,a9,rfl,j,_,ad):=a6;let ap:=ac.len;let aq:=ad.len;let hdl:AC ds+1<=n:=by rw[RC] at hd;show hd
    let step:∀(i:Nat) (D:Hp) (a7:VK) (E':XK),i < ds.length->pC H D->(∀F,pC H F->a7 (.bl true) F)->∃x y,xs[i]?>x/\a9[i]?>y/\FS n [x,y] D a7 E':=λi D a7 E' a1 s1 ag=>by
     let(x,a2,aj):=ac.at (cA a1);let(y,a3,ak):=ad.at (cA a1);show(x,y,a2,a3,?_);cases n with
     |zero=>omega
     |succ n=>show(x,y,ds[i],rfl,aj.same s1,ak.same s1,by have:=JX (cA a1);omega,λF a4=>ag _ (s1.trans a4))
    rfl';rw[gA nofun];cases t with
    |false=>
     let U:H a>(.lst xs):=U;let j:H b>(.lst a9):=j;rw[RJ j rfl,RJ j rfl,RJ j rfl];show(by decide,kM j,iD (by decide,kM j,iD (by decide,kM j,iD (λO D=>O=[↑a,↑b,none]/\D=H,?_,λaa D=>?_))))
     .rfl';rw[zW j,zW U];show(by decide,kM j,nE (by decide,kM U,iD trivial))
     rintro⟨rfl,rfl⟩;show(λO F=>O=[↑a,↑b,none]/\F=D,?_,λaa F=>?_)
     .rfl';rw[RJ j rfl];show(by decide,kM j,iD (iD trivial))
     rintro⟨rfl,rfl⟩;rfl';show(_,.inl (_,uC.of U,rfl),_,.inl (_,uC.of j,rfl),?_);rw[BA ⋯];show iD (_,.inl (_,uC.of j,rfl),⋯,⋯,?_);show CJ (λi O W=>∃Z,O=[↑a,↑b,Z]/\pC F W) (_,rfl,vD) (λi O W a1=>?_) (λO W=>?_)
     .rintro⟨Z,rfl,s1⟩;rfl';let(x,y,a2,a3,a8):=step i W (λx a0=>∃c,x=V.bl c/\if (not c)=true then Q (V.bl false) a0 else pC F a0) (λc x D=>E c none D) ⋯ s1 (λF a4=>(true,rfl,iD a4));show .inl (_,uC.of (s1 _ _ U),x,by rw[pB];show CC a2,.inl (_,uC.of (s1 _ _ j),y,by rw[pB];show CC a3,a8))
     .rintro⟨Z,rfl,s1⟩;rfl';show q _ s1
    |true=>
     let U:H a>(.tup xs):=U;let j:H b>(.tup a9):=j;rw[RJ j rfl,RJ j rfl,RJ j rfl];show(by decide,lM j,iD (by decide,lM j,iD (by decide,lM j,iD (λO D=>O=[↑a,↑b,none]/\D=H,?_,λaa D=>?_))))
     .rfl';rw[RJ j rfl];show(by decide,lM j,iD (iD trivial))
     rintro⟨rfl,rfl⟩;show(λO F=>O=[↑a,↑b,none]/\F=D,?_,λaa F=>?_)
     .rfl';rw[yW j,yW U];show(by decide,lM j,nE (by decide,lM U,iD trivial))
     rintro⟨rfl,rfl⟩;rfl';show(_,.inr (_,VC.of U,rfl),_,.inr (_,VC.of j,rfl),?_);rw[BA ⋯];show iD (_,.inr (_,VC.of j,rfl),⋯,⋯,?_);show CJ (λi O W=>∃Z,O=[↑a,↑b,Z]/\pC F W) (_,rfl,vD) (λi O W a1=>?_) (λO W=>?_)
     .rintro⟨Z,rfl,s1⟩;rfl';let(x,y,a2,a3,a8):=step i W (λx a0=>∃c,x=V.bl c/\if (not c)=true then Q (V.bl false) a0 else pC F a0) (λc x D=>E c none D) ⋯ s1 (λF a4=>(true,rfl,iD a4));show .inr (_,VC.of (s1 _ _ U),x,by rw[pB];show CC a2,.inr (_,VC.of (s1 _ _ j),y,by rw[pB];show CC a3,a8))
     .rintro⟨Z,rfl,s1⟩;rfl';show q _ s1
def rg (n:Nat) (h:Int) (j:Nat):!Int:=(List.range j).map λ(i:Nat)=>(h+(i:Int)) % (n:Int)
theorem TN {n j:Nat} {h:Int}:(rg n h j).length=j:=by unfold rg;rw[fA,WA]
theorem LX {n j:Nat} {h:Int}:rg n h (j+1)=rg n h j++[(h+j) % (n:Int)]:=by unfold rg;rw[List.range_succ,MA];rfl
def UN (K:W.Frag):Sp:=λvs H Q ο=>∃(m:Addr) (h:Int) (bs:!Bool),vs=[.ref m,.int h]/\uC K H m (bs.map V.bl)/\0<=h/\h < bs.length/\bs.length<=1000/\
 ∀(t u:Addr) (j:Nat) H',pC H H'->H t=none->H u=none->j<=bs.length->(∀i < j,bs.getD ((h+i) % (bs.length:Int)).toNat false=true)->(j=bs.length\/bs.getD ((h+j) % (bs.length:Int)).toNat false=false)->
  H' t>(.tup [.int ((h+j) % (bs.length:Int)),.ref u])->H' u>(.lst ((rg bs.length h j).map V.int))->Q (.ref t) H'
theorem GS (T:LD K mg A):oE P w K mg base "swept" 1 ["marks","hand"] [] (UN K):=by
 show T.Gg.have uP (λvs H Q E a1=>?_) ?_
 .let(m,h,bs,rfl,_):=a1;rfl
 .intro f a9 a8 ag s H vs Q E af a1;let(m,h,bs,rfl,a0,aa,ab,ac,q):=a1;show(_,(OC (mD (i:=2) uP.nd rfl (Or.inl rfl) (cF wC))
   (OC (mD (i:=3) uP.nd rfl (Or.inl rfl) (lC 1))
   (OC (HW RA (PW.pt (uH (CD jP (MD BE rfl T.Aj PySem.boot_len (nC (lC 2) wC)) (MD BE rfl T.Aj PySem.boot_len (nC (lC 0) wC)) (rC _)) (tH (gG (BC LC (lC 0) (lC 3) (λο ο=>rfl)))))) (OC (kF (lH PySem.F.plainAttrs_list PySem.F.slot_list_append PySem.F.type_list_append BH (lC 2) (nC (lC 3) wC)))
   (FC (mD (i:=3) uP.nd rfl (Or.inl rfl) (KC FE (KC nF (lC 3) yC) (MD BE rfl T.Aj PySem.boot_len (nC (lC 0) wC)))))))
   (FC (sD (aF (nC (lC 3) (nC (lC 2) wC)))))))),?_)
  rfl';intro u O;show IW (λa5 a6 W=>∃j:Nat,a5=bs.length - j/\j<=bs.length/\a6=[↑m,some (.int h),↑u,some (.int ((h+j) % (bs.length:Int)))]/\pC H W/\W u>(.lst ((rg bs.length h j).map V.int))/\(∀i < j,bs.getD ((h+i) % (bs.length:Int)).toNat false=true)) bs.length (0,rfl,LB _,?_,gE vD O,HC,λi U=>absurd U (jC _)) (λa5 a6 W=>?_)
  .rw[show (h+((0:Nat):Int)) % (bs.length:Int)=h by rw[Int.emod_eq_of_lt]<;>omega]
  .rintro⟨j,rfl,a3,rfl,D,J,Z⟩;rfl';show(j,.inl (_,uC.of J,by rw[fA,TN]),bs.length,.inl (_,D.seq a0,by simp),?_);let a4:(0:Int) < bs.length:=⋯;let ad:=qB (h+j) (show (bs.length:Int)≠0 by omega);let ae:=iB (h+j) a4;let a7:WF (bs.map V.bl) ((h+j) % (bs.length:Int))>(.bl (bs.getD ((h+j) % (bs.length:Int)).toNat false)):=by
    generalize (h+j) % (bs.length:Int)=p at *;let e:=CC (xs:=bs.map V.bl) (j:=p.toNat) (v:=.bl (bs.getD p.toNat false)) (by
     have:p.toNat < bs.length:=⋯;simp[this])
    rw[show ((p.toNat:Nat):Int)=p by omega] at e;show e
   by_cases c:(j:Int) < bs.length
   .rw[iA c];show(_,D.seq a0,_,a7,_,rfl,?_);cases a2:bs.getD ((h+j) % (bs.length:Int)).toNat false with
    |true=>
     show nE (IJ ?_);rfl';show(.inl (rfl,_,uC.of J),_,J,by rw[fA,TN];omega,bs.length,.inl (_,(qF D O).seq a0,by simp),a4,bs.length - (j+1),⋯,j+1,rfl,⋯,?_,qF D O,?_,λi U=>?_)
     .rw[Int.emod_add_emod];congr 1;omega
     .rw[LX,MA];rfl
     .let U||rfl:=(by omega:i < j\/i=j)
      .show Z i U
      .show a2
    |false=>
     show iD λt F=>?_;show q t u j _ (gE D F) (xD D F) O a3 Z (.inr a2) HC (by rw[sC (mE J F)];show J)
   .rw[gA c];show iD λt F=>?_;show q t u j _ (gE D F) (xD D F) O a3 Z (.inl ⋯) HC (by rw[sC (mE J F)];show J)
theorem QG {α β:Type} {F:α->β->Prop}:∀{xs:!α} {ys:!β} {i:Nat} {x:α},Paired F xs ys->xs[i]?>x->∃y,ys[i]?>y/\F x y
 |_,_,_,_,.nil,e=>by simp at e
 |_,_,0,_,.cons r _,e=>by simp at e;subst e;show(_,rfl,r)
 |_,_,i+1,x,.cons _ t,e=>by
  let(u,h1,h2):=QG (i:=i) (x:=x) t (by simpa using e);show(u,by simpa using h1,h2)
theorem nG {α β:Type} {F:α->β->Prop}:∀{xs:!α} {ys:!β} {i:Nat} {y:β},Paired F xs ys->ys[i]?>y->∃x,xs[i]?>x/\F x y
 |_,_,_,_,.nil,e=>by simp at e
 |_,_,0,_,.cons r _,e=>by simp at e;subst e;show(_,rfl,r)
 |_,_,i+1,y,.cons _ t,e=>by
  let(u,h1,h2):=nG (i:=i) (y:=y) t (by simpa using e);show(u,by simpa using h1,h2)
theorem CI {α β:Type} {F:α->β->Prop} {x:α} {y:β} (hxy:F x y):∀{xs:!α} {ys:!β} (i:Nat),Paired F xs ys->Paired F (xs.set i x) (ys.set i y)
 |_,_,_,.nil=>.nil
 |_,_,0,.cons _ t=>.cons hxy t
 |_,_,i+1,.cons r t=>.cons r (CI hxy i t)
set_option genInjectivity false in
structure Sh where
 b:!Int
 ks:!(!Key)
 sh:Addr
 bx:Addr
 hd:Addr
def Kp (ex:!Addr) (H H':Hp):Prop:=∀c o,H c>o->c∉ex->H' c>o
def tM (bx hd:Addr):!(Str×V):=JC "holders" (.ref hd) (JC "boxes" (.ref bx) [])
theorem uM {j hd:Addr}:(tM j hd).lookup ("boxes":Str)=↑j:=by rfl
theorem VN {j hd:Addr}:(tM j hd).lookup ("holders":Str)=↑hd:=by rfl
theorem SJ {j hd:Addr} {m:Str} (h:¬m∈(["boxes","holders"]:!Str)):(tM j hd).lookup m=none:=by
 simp only[xA,VA,or_false,not_or] at h;unfold tM;simp only[nN,h.1,h.2,GB]
 rfl
def TJ (ly tw:Addr):!(Str×V):=JC "twins" (.ref tw) (JC "lying" (.ref ly) [])
theorem AF {j tw:Addr}:(TJ j tw).lookup ("lying":Str)=↑j:=by rfl
theorem RG {j tw:Addr}:(TJ j tw).lookup ("twins":Str)=↑tw:=by rfl
theorem vM {j tw:Addr} {m:Str} (h:¬m∈(["lying","twins"]:!Str)):(TJ j tw).lookup m=none:=by
 simp only[xA,VA,or_false,not_or] at h;unfold TJ;simp only[nN,h.1,h.2,GB]
 rfl
set_option genInjectivity false in
structure St where
 fr:!(Option Sh)
 sr:!(Option Sh)
 h:Nat
 go:Int
 ga:Int
 cb:Int
 tf:!(Option Nat)
 ts:!(Option Nat)
def rF (n:Int) (fp sq:Addr) (s:St):!(Str×V):=JC "come_back" (.int s.cb) (JC "gone_astray" (.int s.ga) (JC "gone_out" (.int s.go) (JC "hand" (.int s.h) (JC "slots" (.ref sq) (JC "frames" (.ref fp) (JC "size" (.int n) []))))))
section
variable {n:Int} {fp sq:Addr} {s:St}
theorem FF:(rF n fp sq s).lookup ("frames":Str)=↑fp:=by rfl
theorem uG:(rF n fp sq s).lookup ("slots":Str)=↑sq:=by rfl
theorem WN:(rF n fp sq s).lookup ("hand":Str)>(.int s.h):=by rfl
theorem M5:(rF n fp sq s).lookup ("gone_out":Str)>(.int s.go):=by rfl
theorem N5:(rF n fp sq s).lookup ("gone_astray":Str)>(.int s.ga):=by rfl
theorem O5:(rF n fp sq s).lookup ("come_back":Str)>(.int s.cb):=by rfl
theorem DE {m:Str} (h:¬m∈(["size","frames","slots","hand","gone_out","gone_astray","come_back"]:!Str)):(rF n fp sq s).lookup m=none:=by
 simp only[xA,VA,or_false,not_or] at h;let(j,q,D,F,J,O,U):=h;unfold rF;simp only[nN,j,q,D,F,J,O,U,GB]
 rfl
theorem gL {h:Nat}:JC "hand" (.int (h:Int)) (rF n fp sq s)=rF n fp sq {s with h:=h}:=by rfl
theorem iL {x:Int}:JC "gone_out" (.int x) (rF n fp sq s)=rF n fp sq {s with go:=x}:=by rfl
theorem jL {x:Int}:JC "gone_astray" (.int x) (rF n fp sq s)=rF n fp sq {s with ga:=x}:=by rfl
theorem kL {x:Int}:JC "come_back" (.int x) (rF n fp sq s)=rF n fp sq {s with cb:=x}:=by rfl
end
def sE (ks:!(!Key)):!(!Key×V):=ks.map λk=>(k,V.bl true)
def bD (C:Addr) (H:Hp) (v:V):Option Sh->Prop
 |none=>v=.non
 |some r=>v=.ref r.sh/\(∃dx,H r.sh>(.ins C dx (tM r.bx r.hd)))/\H r.bx>(.lst (r.b.map V.int))/\H r.hd>(.dT (sE r.ks))
abbrev RD (C:Addr) (H:Hp):!V->!(Option Sh)->Prop:=Paired (bD C H)
theorem bD.same {C:Addr} {H H':Hp} (s:pC H H') {v:V}:∀{r:Option Sh},bD C H v r->bD C H' v r
 |none,h=>h
 |some _,⟨e,⟨dx,h1⟩,h2,h3⟩=>(e,⟨dx,s _ _ h1⟩,s _ _ h2,s _ _ h3)
theorem RD.same {C:Addr} {H j:Hp} (s:pC H j) {vs:!V} {D:!(Option Sh)} (h:RD C H vs D):RD C j vs D:=Paired.mapP h λο ο q=>q.same s
def oV:Option Nat->V
 |none=>.non
 |some j=>.int (j:Int)
def IG (C S:Addr) (H:Hp) (p ly tw:Addr) (rows:!(Option Sh)) (tws:!(Option Nat)):Prop:=∃dx vs,H p>(.ins C dx (TJ ly tw))/\H ly>(.lst vs)/\RD S H vs rows/\H tw>(.lst (tws.map oV))/\tws.length=rows.length
theorem IG.same {C S:Addr} {H j:Hp} {p q tw:Addr} {rows:!(Option Sh)} {D:!(Option Nat)} (h:IG C S H p q tw rows D) (s:pC H j):IG C S j p q tw rows D:=let ⟨dx,vs,h1,h2,h3,h4,h5⟩:=h;(dx,vs,s _ _ h1,s _ _ h2,h3.same s,s _ _ h4,h5)
set_option genInjectivity false in
structure Ss where
 p:Addr
 fp:Addr
 ly:Addr
 tw:Addr
 sq:Addr
 ls:Addr
 ts:Addr
 n:Int
def Ss.four (z:Ss):!Addr:=[z.ly,z.tw,z.ls,z.ts]
def Ks (z:Ss) (H H':Hp):Prop:=∀c o,H c>o->c≠z.p->c∉z.four->H' c>o
theorem Ks.trans {j:Ss} {H q D:Hp} (a:Ks j H q) (b:Ks j q D):Ks j H D:=λc o h F J=>b c o (a c o h F J) F J
theorem Ks.of {q:Ss} {H j:Hp} (s:pC H j):Ks q H j:=λc o h ο ο=>s c o h
def Kd (z:Ss) (H H':Hp):Prop:=∀c o,H c>o->c≠z.p->c∉z.four->(∀kvs,o≠.dT kvs)->H' c>o
theorem Ks.kd {q:Ss} {H j:Hp} (s:Ks q H j):Kd q H j:=λc o h D F ο=>s c o h D F
theorem Kd.of {q:Ss} {H j:Hp} (s:pC H j):Kd q H j:=λc o h ο ο ο=>s c o h
def iE (rows:!(Option Sh)):!Addr:=rows.filterMap λr=>r.map Sh.hd
structure xC (C P S:Addr) (H:Hp) (z:Ss) (s:St):Prop where
 me:∃dx,H z.p>(.ins C dx (rF z.n z.fp z.sq s))
 fr:IG P S H z.fp z.ly z.tw s.fr s.tf
 sl:IG P S H z.sq z.ls z.ts s.sr s.ts
 n4:z.four.Nodup
 bx:∀r,some r∈s.fr\/some r∈s.sr->r.bx∉z.four
 len:s.fr.length<=64/\s.sr.length<=64
 hh:s.h < s.fr.length
theorem xC.same {C P S:Addr} {H j:Hp} {D:Ss} {s:St} (h:xC C P S H D s) (e:pC H j):xC C P S j D s:=
 (let ⟨dx,q⟩:=h.me;⟨dx,e _ _ q⟩,h.fr.same e,h.sl.same e,h.n4,h.bx,h.len,h.hh)
theorem xC.fours {C P S:Addr} {H:Hp} {q:Ss} {s:St} (h:xC C P S H q s):∀c∈q.four,∃us,H c>(.lst us):=λc j=>by
 let(_,_,_,D,_,F,_):=id h.fr;let(_,_,_,J,_,O,_):=id h.sl;unfold Ss.four at j;simp only[xA,VA,or_false] at j;let rfl||rfl||rfl||rfl:=j
 .show⟨_,D⟩
 .show⟨_,F⟩
 .show⟨_,J⟩
 .show⟨_,O⟩
theorem xC.nf {C P S:Addr} {H:Hp} {j:Ss} {s:St} (h:xC C P S H j s) {e:Addr} (q:H e=none):e∉j.four:=λz9=>by let(us,h):=h.fours _ z9;rw[q] at h;cases h
def Ap (s:St):Prop:=(iE (s.fr++s.sr)).Nodup
def St.rw (s:St) (f:Bool):!(Option Sh):=if f=true then s.fr else s.sr
def St.put (s:St) (f:Bool) (j:Nat) (r:Option Sh):St:=if f=true then {s with fr:=s.fr.set j r} else {s with sr:=s.sr.set j r}
def Ss.la (z:Ss) (f:Bool):Addr:=if f=true then z.ly else z.ls
def EE (f:Bool):Str:=if f=true then Str.ofString "frame" else Str.ofString "slot"
theorem SG {z:Ss} {f:Bool}:z.la f∈z.four:=by cases f<;>simp[Ss.la,Ss.four]
theorem xC.row {C P S:Addr} {H:Hp} {D:Ss} {s:St} (h:xC C P S H D s) (f:Bool):∃vs,H (D.la f)>(.lst vs)/\RD S H vs (s.rw f):=by
 cases f with
 |true=>let(_,vs,_,j,q,_):=h.fr;show(vs,j,q)
 |false=>let(_,vs,_,j,q,_):=h.sl;show(vs,j,q)
theorem lL {S a:Addr} {H:Hp} {us:!V} {o:HO} (hl:H a>(.lst us)) {v:V}:∀{r:Option Sh},bD S H v r->(∀q,r>q->q.bx≠a)->bD S (upd H a o) v r
 |none,h,_=>h
 |some r,⟨e,⟨dx,h1⟩,h2,h3⟩,hb=>(e,⟨dx,by rw[sC (HD h1 hl nofun)];show h1⟩,by rw[sC (hb r rfl)];show h2,by rw[sC (HD h3 hl nofun)];show h3)
theorem QH {S a:Addr} {H:Hp} {us:!V} {o:HO} (D:H a>(.lst us)) {vs:!V} {rows:!(Option Sh)} (h:RD S H vs rows) (j:∀r,some r∈rows->r.bx≠a):RD S (upd H a o) vs rows:=by
 induction h with
 |nil=>show .nil
 |@cons x y _ _ h t ih=>show .cons (lL D h λq e=>j q (by rw[e];show wA ..)) (ih λr F=>j r (kA _ F))
theorem HS {s:St} {f:Bool} {j:Nat} {r:Option Sh} {q:Sh} (h:some q∈(s.put f j r).fr\/some q∈(s.put f j r).sr):some q=r\/some q∈s.fr\/some q∈s.sr:=by
 cases f with
 |true=>
  let h||h:=h
  .let h||h:=PB (show some q∈s.fr.set j r from h)
   .show .inr (.inl h)
   .show .inl h
  .show .inr (.inr h)
 |false=>
  let h||h:=h
  .show .inr (.inl h)
  .let h||h:=PB (show some q∈s.sr.set j r from h)
   .show .inr (.inr h)
   .show .inl h
theorem xC.set {C P S:Addr} {H:Hp} {F:Ss} {s:St} {f:Bool} {vs:!V} {v:V} {r:Option Sh} {j:Nat} (h:xC C P S H F s) (O:H (F.la f)>(.lst vs)) (ao:bD S H v r) (ah:∀q,r>q->q.bx∉F.four):xC C P S (upd H (F.la f) (.lst (vs.set j v))) F (s.put f j r):=by
 let(W,ag):=h.me;let(a8,ak,aa,ab,ac,a0,a4):=id h.fr;let(a9,al,ad,ae,af,a1,a5):=id h.sl;let a6:=h.n4;unfold Ss.four at a6;simp only[JA,xA,VA,or_false,not_or,not_false_eq_true,UB,and_true] at a6;let((ap,aj,aq),(ar,av),au):=a6;let Z:∀q,some q∈s.fr\/some q∈s.sr->q.bx≠F.la f:=λq J e=>h.bx q J (by rw[e];show SG);let ai:bD S (upd H (F.la f) (.lst (vs.set j v))) v r:=lL O ao λq e z9=>ah q e (by rw[z9];show SG);let U:∀{c D W fs},H c>(.ins D W fs)->upd H (F.la f) (.lst (vs.set j v)) c>(.ins D W fs):=λa2=>by rw[sC (HD a2 O nofun)];show a2
 let nl:∀{c o},H c>o->c≠F.la f->upd H (F.la f) (.lst (vs.set j v)) c>o:=λa2 am=>by rw[sC am];show a2
 let a7:∀q,some q∈(s.put f j r).fr\/some q∈(s.put f j r).sr->q.bx∉F.four:=λq J=>(HS J).elim (λe=>ah q e.symm) (h.bx q);cases f with
 |true=>
  let a3:vs=ak:=by rw[show F.la true=F.ly from rfl,ab] at O;cases O;rfl
  subst a3;let a0:=nl a0 (Ne.symm ap);rw[<-rA (as:=s.fr) (i:=j) (a:=r)] at a4;let len:=h.len;let hh:=h.hh;rw[<-rA (as:=s.fr) (i:=j) (a:=r)] at len hh;show(⟨W,U ag⟩,(a8,vs.set j v,U aa,HC,CI ai j (QH O ac λq J=>Z q (.inl J)),a0,a4),(a9,al,U ad,nl ae (Ne.symm aj),QH O af λq J=>Z q (.inr J),nl a1 (Ne.symm aq),a5),h.n4,a7,len,hh)
 |false=>
  let a3:vs=al:=by rw[show F.la false=F.ls from rfl,ae] at O;cases O;rfl
  subst a3;let a1:=nl a1 (Ne.symm au);rw[<-rA (as:=s.sr) (i:=j) (a:=r)] at a5;let len:=h.len;rw[<-rA (as:=s.sr) (i:=j) (a:=r)] at len;show(⟨W,U ag⟩,(a8,ak,U aa,nl ab aj,QH O ac λq J=>Z q (.inl J),nl a0 ar,a4),(a9,vs.set j v,U ad,HC,CI ai j (QH O af λq J=>Z q (.inr J)),a1,a5),h.n4,a7,len,h.hh)
theorem xC.num {C P S:Addr} {H:Hp} {j:Ss} {s s':St} {O:Addr} (h:xC C P S H j s) (e:H j.p>(.ins C O (rF j.n j.fp j.sq s))) (U:s'.fr=s.fr) (W:s'.sr=s.sr) (a6:s'.h < s.fr.length) (a0:s'.tf=s.tf) (a1:s'.ts=s.ts):xC C P S (upd H j.p (.ins C O (rF j.n j.fp j.sq s'))) j s':=by
 let(a4,am,a8,a9,aa,ab,ac):=id h.fr;let(a5,ao,ad,ae,af,ag,ah):=id h.sl;let D:∀{c o},H c>o->(∀J F fs,o=.ins J F fs->fs.lookup ("hand":Str)=none)->upd H j.p (.ins C O (rF j.n j.fp j.sq s')) c>o:=λ{c o} Z al=>by
  rewrite[sC (λa7=>?_)];(try with_reducible rfl)
  .show Z
  .rw[a7,e] at Z;have:=al _ _ _ (bA Z).symm;rw[WN] at this;cases this
 let nl:∀{us J F fs},HO.lst us=.ins J F fs->fs.lookup ("hand":Str)=none:=λj=>nomatch j;let sp:∀{a b J F fs} {Q d2:Addr},HO.ins Q d2 (TJ a b)=.ins J F fs->fs.lookup ("hand":Str)=none:=λj=>by cases j;show vM ∅
 let a3:∀{v:V} {r:Option Sh},bD S H v r->bD S (upd H j.p (.ins C O (rF j.n j.fp j.sq s'))) v r:=λ{v r} a2=>by
  cases r with
  |none=>show a2
  |some r=>
   let(a,(F,ai),aj,ak):=a2;show(a,⟨F,D ai λο ο ο j=>by cases j;show SJ ∅⟩,D aj λο ο ο j=>nl j,D ak λο ο ο j=>nomatch j)
 show(⟨O,HC⟩,(a4,am,D a8 λο ο ο j=>sp j,D a9 λο ο ο j=>nl j,by rw[U];show Paired.mapP aa λο ο q=>a3 q,by rw[a0];show D ab λο ο ο j=>nl j,by rw[U,a0];show ac),(a5,ao,D ad λο ο ο j=>sp j,D ae λο ο ο j=>nl j,by rw[W];show Paired.mapP af λο ο q=>a3 q,by rw[a1];show D ag λο ο ο j=>nl j,by rw[W,a1];show ah),h.n4,by rw[U,W];show h.bx,by rw[U,W];show h.len,by rw[U];show a6)
def Ss.ta (z:Ss) (f:Bool):Addr:=if f=true then z.tw else z.ts
def St.tn (s:St) (f:Bool):!(Option Nat):=if f=true then s.tf else s.ts
def St.tie (s:St) (f:Bool) (j:Nat) (o:Option Nat):St:=if f=true then {s with tf:=s.tf.set j o} else {s with ts:=s.ts.set j o}
theorem RH {z:Ss} {f:Bool}:z.ta f∈z.four:=by cases f<;>simp[Ss.ta,Ss.four]
theorem xC.tie {C P S:Addr} {H:Hp} {F:Ss} {s:St} {f:Bool} {j:Nat} {o:Option Nat} (h:xC C P S H F s):xC C P S (upd H (F.ta f) (.lst (((s.tn f).map oV).set j (oV o)))) F (s.tie f j o):=by
 let(U,ad):=h.me;let(a1,af,a3,a4,a5,a6,a7):=id h.fr;let(a2,ag,a8,a9,aa,ab,ac):=id h.sl;let a0:=h.n4;unfold Ss.four at a0;simp only[JA,xA,VA,or_false,not_or,not_false_eq_true,UB,and_true] at a0;let((ai,am,aj),(ak,ae),al):=a0;let V:H (F.ta f)>(.lst ((s.tn f).map oV)):=by cases f with|true=>show a6|false=>show ab
 let W:∀q,some q∈s.fr\/some q∈s.sr->q.bx≠F.ta f:=λq J e=>h.bx q J (by rw[e];show RH);let es:((s.tn f).map oV).set j (oV o)=((s.tn f).set j o).map oV:=by rw[List.map_set]
 rw[es];let O:∀{c D U fs},H c>(.ins D U fs)->upd H (F.ta f) (.lst (((s.tn f).set j o).map oV)) c>(.ins D U fs):=λZ=>by rw[sC (HD Z V nofun)];show Z
 let nl:∀{c o'},H c>o'->c≠F.ta f->upd H (F.ta f) (.lst (((s.tn f).set j o).map oV)) c>o':=λZ ah=>by rw[sC ah];show Z
 cases f with
 |true=>show(⟨U,O ad⟩,(a1,af,O a3,nl a4 ai,QH V a5 λq J=>W q (.inl J),HC,by change (s.tf.set j o).length=_;rw[rA];show a7),(a2,ag,O a8,nl a9 (Ne.symm ak),QH V aa λq J=>W q (.inr J),nl ab (Ne.symm ae),ac),h.n4,h.bx,h.len,h.hh)
 |false=>show(⟨U,O ad⟩,(a1,af,O a3,nl a4 aj,QH V a5 λq J=>W q (.inl J),nl a6 ae,a7),(a2,ag,O a8,nl a9 al,QH V aa λq J=>W q (.inr J),HC,by change (s.ts.set j o).length=_;rw[rA];show ac),h.n4,h.bx,h.len,h.hh)
def MX (C:Addr):Sp:=λvs H Q ο=>∃(s dx l h:Addr) (bs:!Int) (k:!Key),vs=[.ref s,.ref l,.ref h]/\H s>(.ins C dx [])/\H l>(.lst (bs.map V.int))/\H h>(.tup (k.map kV))/\
 ∀bx hd H',H bx=none->H hd=none->Kp [s] H H'->H' s>(.ins C dx (tM bx hd))->H' bx>(.lst (bs.map V.int))->H' hd>(.dT [(k,.bl true)])->Q .non H'
theorem XN (T:LD K mg A):YF P w K mg base "Sheet" A.Ac 1 ["self","boxes","holder"] [] (MX A.Ac):=by
 show T.Eo.have j4 (λvs H Q E j=>?_) ?_
 .let(s,O,l,h,bs,k,rfl,_):=j;rfl
 .intro f ab aa ac s H vs Q E a5 j;let(s,O,l,h,bs,k,rfl,Z,a4,hh,q):=j;show(_,(OC (YG (lC 0) (aH tJ rfl T.A7 bB (nC (lC 1) wC)) rfl)
   (FC (YG (lC 0) (U1 (xN a5) (lC 2) NG) rfl))),?_)
  unfold kI;rfl';show(_,.inl (uC.of a4),λJ U=>?_);let F:=gE (o:=.lst (bs.map V.int)) (vD (H:=H)) U;let a1:s≠J:=mE Z U;show(A.Ac,O,[],F _ _ Z,T.An,T.At,by decide,λhd D=>?_);let a0:hd≠s:=λj=>by rw[j,HC] at D;cases D
  let a7:hd≠J:=λj=>by rw[j,sC a1.symm,HC] at D;cases D
  let W:H hd=none:=by rw[sC a0] at D;show xD F D
  let a8:h≠hd:=mE hh W;let a9:h≠s:=HD hh Z nofun;show(k,by rw[sC a8,sC a9];show F _ _ hh,A.Ac,O,JC "boxes" (.ref J) [],by rw[sC a0.symm,HC],T.An,T.Au,by change 1 < 1000;decide,?_);show q J hd _ U W (λc o a2 a6=>?_) HC ?_ ?_
  .let a3:c≠s:=λj=>a6 (by simp[j]);rw[sC a3,sC (mE a2 W),sC a3];show F _ _ a2
  .rw[sC a1.symm,sC a7.symm,sC a1.symm,HC]
  .rw[sC a0,HC]
theorem wM {α β:Type} {F:α->β->Prop} {G:β->α->Prop}:∀{xs:!α} {ys:!β},Paired F xs ys->(∀x y,F x y->G y x)->Paired G ys xs
 |_,_,.nil,_=>.nil
 |_,_,.cons r t,h=>.cons (h _ _ r) (wM t h)
def KH (k:!Key):!(!Key)->!(!Key)
 |[]=>[k]
 |x::r=>if EF k x=true then k::x::r else x::KH k r
def zD:!(!Key)->!(!Key)
 |[]=>[]
 |k::r=>KH k (zD r)
theorem IS {k:!Key}:∀{l:!(!Key)},(KH k l).Perm (k::l)
 |[]=>mB _
 |x::r=>by
  unfold KH
  split
  .show mB _
  .show (List.Perm.cons x (IS (l:=r))).trans (List.Perm.swap ..)
theorem JG:∀{l:!(!Key)},(zD l).Perm l
 |[]=>mB _
 |k::r=>(IS (l:=zD r)).trans (List.Perm.cons k JG)
set_option tactic.hygienic true in
theorem NX {k:!Key} (hk:SE k):∀{l:!(!Key)},(∀x∈l,SE x)->k∉l->l.Pairwise (EF · ·=true)->(KH k l).Pairwise (EF · ·=true)
 |[],_,_,_=>List.pairwise_singleton _ _
 |x::r,ht,hn,h=>by
  unfold KH;let hx:=ht x (wA ..);let(h1,h2):=EB.mp h
  split
  .rename_i c;show EB.mpr ⟨λy hy=>?_,h⟩;let rfl||hy:=xA.mp hy
   .show c
   .show kR hk hx (ht y (kA _ hy)) c (h1 y hy)
  .rename_i c;let c2:EF x k=true:=(dX hk hx (λe=>hn (by rw[e];show wA ..))).resolve_left c;show EB.mpr ⟨λy hy=>?_,NX hk (λy hy=>ht y (kA _ hy)) (λz=>hn (kA _ z)) h2⟩;let rfl||hy:=xA.mp (IS.mem_iff.mp hy)
   .show c2
   .show h1 y hy
theorem JS:∀{l:!(!Key)},(∀x∈l,SE x)->l.Nodup->(zD l).Pairwise (EF · ·=true)
 |[],_,_=>.nil
 |k::r,ht,hn=>NX (ht k (wA ..)) (λx hx=>ht x (kA _ (JG.mem_iff.mp hx))) (λz=>(JA.mp hn).1 (JG.mem_iff.mp z)) (JS (λx hx=>ht x (kA _ hx)) (JA.mp hn).2)
theorem yP {l ks:!(!Key)} (q:∀x∈l,SE x) (F:l.Nodup) (j:ks.Perm l) (J:ks.Pairwise (EF · ·=true)):ks=zD l:=
 eX (j.trans JG.symm) (λk D=>q k (j.mem_iff.mp D)) J (JS q F)
def vF (H:Hp) (l:Addr) (ks:!(!Key)):Prop:=∃us,H l>(.lst us)/\Paired (λv k=>∃a,v=V.ref a/\H a>(.tup (k.map kV))) us ks
theorem vF.same {H j:Hp} {l:Addr} {ks:!(!Key)} (h:vF H l ks) (s:pC H j):vF j l ks:=let ⟨us,h1,h2⟩:=h;(us,s _ _ h1,Paired.mapP h2 λ_ _ ⟨a,e,q⟩=>(a,e,s _ _ q))
def LH (ks:!(!Key)):Prop:=ks.length < 64/\ks.Nodup/\∀k∈ks,SE k
def jH (r:Sh):Prop:=LH r.ks
def zP (C:Addr):Sp:=λvs H Q ο=>∃(v:V) (r:Sh),vs=[v]/\bD C H v (some r)/\jH r/\∀l H',H l=none->pC H H'->vF H' l (zD r.ks)->Q (.ref l) H'
theorem BP (T:LD K mg A):SC P w K mg base A.Ac "told_holders" 1 ["self"] [] (zP A.Ac):=by
 show T.Bg.have r4 (λvs H Q E D=>?_) ?_
 .let(v,r,rfl,_):=D;rfl
 .intro f a5 a4 a9 s H vs Q E a8 D;let(v,r,rfl,(rfl,(a6,V),a7,W),(Z,a1,U),q):=D;show(_,(FC (sD (MD (P3 rfl) rfl T.Cz PyProof.Rows.boot_sorted (nC (YC (lC 0) rfl) wC)))),?_);rfl';simp only[V];rfl';let F:(sE r.ks).map (·.1)=r.ks:=by unfold sE;rw[List.map_map];show List.map_id _
  show(T.An,T.Au,_,VN,r.hd,rfl,sE r.ks,W,by unfold sE;rw[fA];show Z,λa3 a0=>?_,λl us ks j J O a2=>?_)
  .show U _ (by rw[<-F];show jB.mpr (a3,a0,rfl))
  .rw[F] at O;rw[yP U a1 O a2] at J;show q l _ j (gE vD j) (us,HC,?_);show wM J λ_ _ ⟨a,e,h⟩=>(a,e,(gE vD j) _ _ h)
def OX (C:Addr):Sp:=λvs H Q ο=>∃(s dx:Addr) (n:Nat),vs=[.ref s,.int n]/\H s>(.ins C dx [])/\n<=64/\
 ∀ly tw H',H ly=none->H tw=none->ly≠tw->Kp [s] H H'->H' s>(.ins C dx (TJ ly tw))->H' ly>(.lst (List.replicate n V.non))->H' tw>(.lst (List.replicate n V.non))->Q .non H'
theorem YN (T:LD K mg A):YF P w K mg base "Spots" A.Ad 1 ["self","many"] [] (OX A.Ad):=by
 show T.Ep.have M4 (λvs H Q E J=>?_) ?_
 .let(s,D,n,rfl,_):=J;rfl
 .intro f ai ah al s H vs Q E aj J;let(s,D,n,rfl,a7,a6,q):=J;show(_,(OC (YG (lC 0) (KC pW (cF (nC BD wC)) (lC 1)) rfl)
   (FC (YG (lC 0) (KC pW (cF (nC BD wC)) (lC 1)) rfl))),?_)
  unfold rRep;rfl';let e:∀k:Nat,(List.replicate k [V.non]).flatten=List.replicate k V.non:=λk=>by
   induction k with
   |zero=>rfl
   |succ k af=>rw[BB,List.flatten_cons,af];rfl
  intro O ab;let a1:=gE (o:=.lst [V.non]) (vD (H:=H)) ab;show([.non],rfl,⋯,⋯,by change 1 * n<=16777216;omega,λj a3=>?_);rw[gB,e];let a4:=xD a1 a3;let W:=gE (o:=.lst (List.replicate n V.non)) a1 a3;let aa:s≠j:=mE a7 a4;show(A.Ad,D,[],W _ _ a7,T.Af,T.Ag,by decide,λak ac=>?_);let k3:∀c o,H c>o->c≠s->upd (upd (upd H O (.lst [V.non])) j (.lst (List.replicate n V.non))) s (.ins A.Ad D (JC "lying" (.ref j) [])) c>o:=λc o F a6=>by rw[sC a6];show W _ _ F
  let ad:upd (upd (upd H O (.lst [V.non])) j (.lst (List.replicate n V.non))) s (.ins A.Ad D (JC "lying" (.ref j) [])) s>(.ins A.Ad D (JC "lying" (.ref j) [])):=HC;let a5:upd (upd (upd H O (.lst [V.non])) j (.lst (List.replicate n V.non))) s (.ins A.Ad D (JC "lying" (.ref j) [])) j>(.lst (List.replicate n V.non)):=by rw[sC aa.symm,HC]
  let a9:∀c,upd (upd (upd H O (.lst [V.non])) j (.lst (List.replicate n V.non))) s (.ins A.Ad D (JC "lying" (.ref j) [])) c=none->H c=none/\c≠s:=λc F=>by
   let U:c≠s:=λJ=>by rw[J,HC] at F;cases F
   rw[sC U] at F;show⟨xD W F,U⟩
  generalize upd (upd (upd H O (.lst [V.non])) j (.lst (List.replicate n V.non))) s (.ins A.Ad D (JC "lying" (.ref j) []))=H3 at *;let a2:=gE (o:=.lst [V.non]) (vD (H:=H3)) ac;show([.non],rfl,⋯,⋯,by change 1 * n<=16777216;omega,λtw a8=>?_);rw[e];let Z:=gE (o:=.lst (List.replicate n V.non)) a2 a8;let a0:=xD a2 a8;show(A.Ad,D,JC "lying" (.ref j) [],Z _ _ ad,T.Af,T.Ai,by change 1 < 1000;decide,?_);let ag:=(a9 tw a0).2;show q j tw _ a4 (a9 tw a0).1 (mE a5 a0) (λc o F ae=>?_) HC (by rw[sC aa.symm];show Z _ _ a5) (by rw[sC ag,HC]);let U:c≠s:=λJ=>ae (by simp[J]);rw[sC U];show Z _ _ (k3 c o F U)
def tE (rows:!(Option Sh)) (tws:!(Option Nat)):Option Nat:=(rows.zip tws).findIdx? λp=>p.1.isNone&&p.2.isNone
def fe (rows:!(Option Sh)) (tws:!(Option Nat)):V:=match tE rows tws with
 |none=>.non
 |some j=>.int (j:Int)
def UJ (C S:Addr):Sp:=λvs H Q ο=>∃(p ly tw:Addr) (rows:!(Option Sh)) (tws:!(Option Nat)),vs=[.ref p]/\IG C S H p ly tw rows tws/\∀H',pC H H'->Q (fe rows tws) H'
theorem ZN (T:LD K mg A):SC P w K mg base A.Ad "first_empty" 1 ["self"] [] (UJ A.Ad A.Ac):=by
 show T.Bn.have wR (λvs H Q E F=>?_) ?_
 .let(p,ac,tw,rows,D,rfl,_):=F;rfl
 .intro f ao al au s H vs Q E ar F;let(p,ac,tw,rows,D,rfl,(ad,us,a4,a5,a6,ae,ap),q):=F;show(_,(OC (DG RA rfl (WQ rfl T.Bd (nC (YC (lC 0) rfl) wC)) (aN (n:=2) rfl (zI (jE (i:=1) wR.nd rfl (Or.inl rfl)) (zI (jE (i:=2) wR.nd rfl (Or.inl rfl)) YM))) (FC (JD (PW.pt (uH (CD yG (lC 2) BD (rC _)) (tH (CD yG (BC LC (YC (lC 0) rfl) (lC 1) (λο ο=>rfl)) BD (rC _))))) (FC (sD (lC 1))) KD)))
   (FC (sD BD))),?_)
  rfl';simp only[a4];rfl';let ai:=Paired.length a6;let aj:(rows.zip D).length=rows.length:=by rw[List.length_zip];omega
  show(T.Af,T.Ag,_,AF,ac,rfl,⟨_,uC.of a5⟩,XQ (xs:=us) (λi Z a0=>∃a1 a2,Z=[↑p,a1,a2]/\pC H a0/\∀(j:Nat) y,j < i->(rows.zip D)[j]?>y->(y.1.isNone&&y.2.isNone)=false) (_,_,rfl,vD,λj r h=>absurd h (jC _)) (λi Z a0 _ a3=>by let(_,_,a3):=a3;show uC.of (a3.2.1 _ _ a5)) (λi x av Z a0 ag=>?_) (λZ am=>?_))
  .rintro⟨a1,a2,rfl,s1,W⟩ ah;let(y,a9,aa):=QG a6 ag;let J:=gE (o:=.tup [V.int i,x]) s1 ah;let aq:i < rows.length:=(aA.mp a9).1;obtain⟨o,a7⟩:∃o,D[i]?>o:=⟨_,cA ⋯⟩
   let ab:(rows.zip D)[i]?>(y,o):=by rw[OB];show⟨a9,a7⟩
   let go:(y.isNone&&o.isNone)=false->∀(j:Nat) y,j < i+1->(rows.zip D)[j]?>y->(y.1.isNone&&y.2.isNone)=false:=λaf j ak O U=>by
    let h||rfl:=(by omega:j < i\/j=i)
    .show W j ak h U
    .rw[ab] at U;cases U;show af
   cases y with
   |none=>
    obtain rfl:x=.non:=aa;rfl';show(_,VC.of HC,rfl,_,_,rfl,_,_,rfl,rfl,?_);rw[iA rfl];show(A.Ad,ad,_,J _ _ a4,T.Af,T.Ai,_,RG,tw,rfl,_,_,rfl,uC.of (J _ _ ae),oV o,CC (by rw[FA,a7];rfl),?_);cases o with
    |none=>
     rw[iA (show oV none=V.non from rfl)];let e:fe rows D=.int (i:Int):=by
      let e:tE rows D>i:=List.findIdx?_eq_some_iff_getElem.mpr (⋯,by rw[(aA.mp ab).2];rfl,λj O=>by
       rw[W j _ O (cA ⋯)];decide)
      unfold fe;rw[e]
     let a8:=q _ J;rw[e] at a8;show a8
    |some j=>
     rw[gA nofun];show⟨J,go rfl⟩
   |some r=>
    let(rfl,_):=aa;rfl';show(_,VC.of HC,rfl,_,_,rfl,_,_,rfl,rfl,?_);rw[gA nofun];show iD ⟨J,go rfl⟩
  rintro⟨a1,a2,rfl,s1,W⟩;rfl';let e:fe rows D=.non:=by
   let e:tE rows D=none:=List.findIdx?_eq_none_iff.mpr λy U=>by
    let(j,O):=IA.mp U;show W j y (by rw[ai,<-aj];show (aA.mp O).1) O
   unfold fe;rw[e]
  rw[<-e];show q _ s1
def VE (rows:!(Option Sh)):Nat:=(rows.filter Option.isSome).length
def VJ (C S:Addr):Sp:=λvs H Q ο=>∃(p ly tw:Addr) (rows:!(Option Sh)) (tws:!(Option Nat)),vs=[.ref p]/\IG C S H p ly tw rows tws/\rows.length<=64/\∀H',pC H H'->Q (.int (VE rows:Nat)) H'
theorem KS (T:LD K mg A):SC P w K mg base A.Ad "live_count" 1 ["self"] [] (VJ A.Ad A.Ac):=by
 show T.B0.have N4 (λvs H Q E U=>?_) ?_
 .let(p,a3,tw,rows,aa,rfl,_):=U;rfl
 .intro f ad ac aj s H vs Q E ai U;let(p,a3,tw,rows,aa,rfl,(ae,us,a5,W,Z,af,_),ah,q):=U;show(_,(FC (sD (MD BE rfl T.Aj PySem.boot_len (nC (FH rfl (vH (YC (lC 0) rfl)) (x:="sheet") (fs:=[]) (ix:=[]) rfl rfl (λο ο ο ο ο ο=>(jE (i:=0) (show (["sheet"]:!Str).Nodup by decide+kernel) rfl (Or.inl rfl))) (λο ο ο ο ο ο=>(EW (CD wH (lC 0) BD (rC _)))) (λο ο ο ο ο ο=>(lC 0))) wC)))),?_);rfl';simp only[a5];rfl';let a8:=Paired.length Z;show(T.Af,T.Ag,_,AF,a3,rfl,⟨_,uC.of W⟩,λa4 a0=>nM (xs:=us) (λi F O j=>∃v,O=[v]/\pC H j/\j a4>(.lst F)/\F.length=VE (rows.take i)) (_,rfl,gE vD a0,HC,rfl) (λi F O j _ V=>by let(_,V):=V;show uC.of (V.2.1 _ _ W)) (λi v F O j a6=>?_) (λF O j=>?_))
  .rintro⟨ab,rfl,s1,J,D⟩;let(y,a9,a2):=QG Z a6;let a7:rows.take (i+1)=rows.take i++[y]:=by rw[uB,a9];rfl
   let a1:VE (rows.take (i+1))=VE (rows.take i)+(if y.isSome=true then 1 else 0):=by
    unfold VE;rw[a7,TB,jA];cases y<;>rfl
   let ag:VE (rows.take i)<=64:=by
    unfold VE;show kB (gC _ _) (by rw[dB];omega)
   let hz:=PySem.sizeLine_eq;cases y with
   |none=>
    obtain rfl:v=.non:=a2;rfl';show iD (s1,J,by rw[a1];show D)
   |some r=>
    let(rfl,_):=a2;rfl';show nE (J,⋯,qF s1 a0,by rw[jA,a1,D];rfl)
  .rintro⟨ab,rfl,s1,J,D⟩;rw[a8,eB] at D;show(_,.inl (_,uC.of J,rfl),?_);rw[D];show q _ s1
def cG (tws:!(Option Nat)):Option Nat:=tws.findSome? id
def aO (C S:Addr):Sp:=λvs H Q ο=>∃(p ly tw:Addr) (rows:!(Option Sh)) (tws:!(Option Nat)),vs=[.ref p]/\IG C S H p ly tw rows tws/\∀H',pC H H'->Q (oV (cG tws)) H'
theorem LS (T:LD K mg A):SC P w K mg base A.Ad "first_twin" 1 ["self"] [] (aO A.Ad A.Ac):=by
 show T.Bz.have uX (λvs H Q E U=>?_) ?_
 .let(p,a3,tw,rows,D,rfl,_):=U;rfl
 .intro f a8 a6 ad s H vs Q E ac U;let(p,a3,tw,rows,D,rfl,(a9,us,a1,aa,ab,W,_),q):=U;show(_,(OC (DG RA rfl (vH (YC (lC 0) rfl)) (jE (i:=1) uX.nd rfl (Or.inl rfl)) (FC (JD (CD wH (lC 1) BD (rC _)) (FC (sD (lC 1))) KD)))
   (FC (sD BD))),?_)
  rfl';simp only[a1];rfl';show(T.Af,T.Ai,_,RG,tw,rfl,⟨_,uC.of W⟩,HK (xs:=D.map oV) (λi F J=>∃O,F=[↑p,O]/\pC H J/\cG D=cG (D.drop i)) (_,rfl,vD,rfl) (λi F J _ V=>by let(_,V):=V;show uC.of (V.2.1 _ _ W)) (λi x F J a0=>?_) (λF a7=>?_))
  .rintro⟨O,rfl,s1,hd⟩;rw[FA] at a0;let(o,a2,rfl):=JB.mp a0;let Z:D.drop i=o::D.drop (i+1):=by
    let(a4,a5):=aA.mp a2;rw[<-a5];show List.drop_eq_getElem_cons a4
   rfl';cases o with
   |none=>show iD ⟨s1,by rw[hd,Z];rfl⟩
   |some j=>
    show nE ?_;let e:cG D>j:=by rw[hd,Z];rfl
    have:=q _ s1;rw[e] at this;show this
  .rintro⟨O,rfl,s1,hd⟩;rw[fA,List.drop_length] at hd;rfl';have:=q _ s1;rw[hd] at this;show this
theorem vG {rows:!(Option Sh)} {a:Addr}:a∈iE rows↔∃r,some r∈rows/\r.hd=a:=by
 unfold iE;rw[List.mem_filterMap];show⟨λ⟨x,q,e⟩=>?_,λ⟨r,j,e⟩=>(some r,j,by rw[<-e];rfl)⟩;cases x with
 |none=>cases e
 |some r=>show(r,q,bA e)
theorem UG {j q:Type} {F:j->q->Prop} {xs:!j} {D:!q} {x:j} {y:q} (h:Paired F xs D) (J:F x y):Paired F (xs++[x]) (D++[y]):=by
 induction h with
 |nil=>show .cons J .nil
 |cons r t O=>show .cons r O
theorem HF {n j:Nat} (h:j < n):zH n (j:Int)>j:=by
 unfold zH;rw[iA ⋯,iA ⋯];rfl
theorem PX {rows:!(Option Sh)}:VE rows<=rows.length:=gC _ _
def fD (s:St):Nat:=VE s.fr+VE s.sr
def room (s:St):Nat:=s.fr.length+s.sr.length
def mL (C P S:Addr):Sp:=λvs H Q ο=>∃(s dx:Addr) (n m:Nat) (z:Int),vs=[.ref s,.int n,.int m,.int z]/\H s>(.ins C dx [])/\1<=n/\n<=64/\m<=64/\
 ∀H' y,xC C P S H' y (List.replicate n none,List.replicate m none,0,0,0,0,List.replicate n none,List.replicate m none)->y.p=s->(∀c∈y.four,H c=none)->Kp [s] H H'->Q .non H'
theorem bO (T:LD K mg A):YF P w K mg base "Sheets" A.Aa 3 ["self","frames","slots","size"] [] (mL A.Aa A.Ad A.Ac):=by
 let al:=@YN P w K mg base A T;show T.D9.have O4 (λvs H Q E j=>?_) ?_
 .let(s,F,n,m,j,rfl,_):=j;rfl
 .intro f c0 bz c1 s H vs Q E aa j;let(s,F,n,m,j,rfl,bd,ba,a1,au,q):=j;show(_,(OC (YG (lC 0) (lC 3) rfl)
   (AD (YG (lC 0) (nP al (-aa) WC (nC (lC 1) wC)) rfl)
   (OC (YG (lC 0) (nP al (-aa) WC (nC (lC 2) wC)) rfl)
   (OC (YG (lC 0) yC rfl)
   (OC (YG (lC 0) yC rfl)
   (OC (YG (lC 0) yC rfl)
   (FC (YG (lC 0) yC rfl)))))))),?_)
  unfold OX;rfl';show(A.Aa,F,[],bd,T.Ab,T.Dy,by decide,?_);let be:upd H s (.ins A.Aa F (JC "size" (.int j) [])) s>(.ins A.Aa F (JC "size" (.int j) [])):=HC;let k1:∀c o,H c>o->c≠s->upd H s (.ins A.Aa F (JC "size" (.int j) [])) c>o:=λc o D a1=>by rw[sC a1];show D
  let a0:∀c,upd H s (.ins A.Aa F (JC "size" (.int j) [])) c=none->H c=none/\c≠s:=λc D=>by
   let W:c≠s:=λj=>by rw[j,HC] at D;cases D
   rw[sC W] at D;show⟨D,W⟩
  generalize upd H s (.ins A.Aa F (JC "size" (.int j) []))=H1 at *;show(λbx am=>∃O Z U tw J,bx=[↑s,some (.int (n:Int)),some (.int (m:Int)),some (.int j)]/\H1 O=none/\H1 U=none/\H1 tw=none/\U≠tw/\pC H1 J/\J O>(.ins A.Ad Z (TJ U tw))/\J U>(.lst (List.replicate n V.non))/\J tw>(.lst (List.replicate n V.non))/\am=upd J s (.ins A.Aa F (JC "frames" (.ref O) (JC "size" (.int j) []))),?_,λc2 am=>?_)
  .rfl';intro O Z a5 b5 bb;show(Z,n,rfl,rfl,a1,λU tw J b9 bi ah bm ag a3 a4=>?_);let aj:=pP (o:=.ins A.Ad Z []) a5 b5 bb;let a2:pC H1 J:=λc o D=>bm c o (aj c o D) (λj=>mE D a5 (nA.mp j));show(A.Aa,F,_,a2 _ _ be,T.Ab,T.Ae,by change 1 < 1000;decide,O,a5,Z,U,xD aj b9,tw,xD aj bi,ah,J,a2,ag,a3,a4,rfl)
  rintro⟨O,Z,U,tw,J,rfl,a5,ar,av,ah,a2,ag,a3,a4,rfl⟩;rfl';let k3:∀c o,J c>o->c≠s->upd J s (.ins A.Aa F (JC "frames" (.ref O) (JC "size" (.int j) []))) c>o:=λc o D a1=>by rw[sC a1];show D
  let ab:upd J s (.ins A.Aa F (JC "frames" (.ref O) (JC "size" (.int j) []))) s>(.ins A.Aa F (JC "frames" (.ref O) (JC "size" (.int j) []))):=HC;let aw:∀c,upd J s (.ins A.Aa F (JC "frames" (.ref O) (JC "size" (.int j) []))) c=none->J c=none:=λc D=>by
   let W:c≠s:=λj=>by rw[j,HC] at D;cases D
   rw[sC W] at D;show D
  generalize upd J s (.ins A.Aa F (JC "frames" (.ref O) (JC "size" (.int j) [])))=H3 at *;intro sq ai ac bf bc;show(ai,m,rfl,rfl,au,λa8 ts ay b6 bg b8 bn az b0 b1=>?_);let ak:=pP (o:=.ins A.Ad ai []) ac bf bc;let a9:pC H3 ay:=λc o D=>bn c o (ak c o D) (λj=>mE D ac (nA.mp j));show(A.Aa,F,_,a9 _ _ ab,T.Ab,T.Ah,by change 2 < 1000;decide,T.Ab,T.A6,by change 3 < 1000;decide,T.Ab,T.A4,by change 4 < 1000;decide,T.Ab,T.Aw,by change 5 < 1000;decide,T.Ab,T.Az,by change 6 < 1000;decide,?_);let ax:=(a0 O a5).2;let ae:=(a0 U ar).2;let af:=(a0 tw av).2;let b2:=a9 _ _ (k3 _ _ ag ax);let b3:=a9 _ _ (k3 _ _ a3 ae);let b4:=a9 _ _ (k3 _ _ a4 af);let a6:=xD ak b6;let a7:=xD ak bg;let bp:a8≠s:=λj=>by rw[j,ab] at a6;cases a6
  let bu:ts≠s:=λj=>by rw[j,ab] at a7;cases a7
  let bt:sq≠s:=λj=>by rw[j,ab] at ac;cases ac
  let ap:∀(ad:Nat) (ao:Hp),RD A.Ac ao (List.replicate ad V.non) (List.replicate ad none):=λad ao=>by
   induction ad with
   |zero=>show .nil
   |succ k bl=>show .cons rfl bl
  let aq:∀k:Nat,(List.replicate k (none:Option Nat)).map oV=List.replicate k V.non:=λk=>by rw[List.map_replicate];rfl
  let b7:=aw a8 a6;let bh:=aw ts a7;let bq:=mE (k3 _ _ a3 ae) a6;let br:=mE (k3 _ _ a3 ae) a7;let bv:=mE (k3 _ _ a4 af) a6;let bw:=mE (k3 _ _ a4 af) a7;show q _ (s,O,U,tw,sq,a8,ts,j) (⟨F,HC⟩,(Z,_,by rw[sC ax];show b2,by rw[sC ae];show b3,ap n _,by rw[sC af,aq];show b4,by rw[qA,qA]),(ai,_,by rw[sC bt];show az,by rw[sC bp];show b0,ap m _,by rw[sC bu,aq];show b1,by rw[qA,qA]),?_,λr aa=>aa.elim (λh=>absurd (YA h) nofun) (λh=>absurd (YA h) nofun),by change (List.replicate n none).length<=64/\(List.replicate m none).length<=64;rw[qA,qA];show⟨a1,au⟩,by change 0 < (List.replicate n none).length;rw[qA];show ba) rfl (λc D=>?_) (λc o D bj=>?_)
  .change [U,tw,a8,ts].Nodup;simp only[JA,xA,VA,or_false,not_or,not_false_eq_true,UB,and_true];show((ah,bq,br),⟨bv,bw⟩,b8)
  .let D:c∈[U,tw,a8,ts]:=D;simp only[xA,VA,or_false] at D;let rfl||rfl||rfl||rfl:=D
   .show (a0 _ ar).1
   .show (a0 _ av).1
   .show (a0 _ (xD a2 b7)).1
   .show (a0 _ (xD a2 bh)).1
  .let W:c≠s:=λj=>bj (by simp[j]);rw[sC W];show a9 _ _ (k3 _ _ (a2 _ _ (k1 c o D W)) W)
def QX (C P S:Addr):Sp:=λvs H Q ο=>∃(z:Ss) (s:St),vs=[.ref z.p]/\xC C P S H z s/\∀H',pC H H'->Q (.int (fD s:Nat)) H'
theorem RX (T:LD K mg A):SC P w K mg base A.Aa "live_sheets" 2 ["self"] [] (QX A.Aa A.Ad A.Ac):=by
 let F:=@KS P w K mg base A T;show T.Bh.have R4 (λvs H Q E j=>?_) ?_
 .let(j,s,rfl,_):=j;rfl
 .intro f a5 a2 a6 s H vs Q E O j;let(j,s,rfl,D,q):=j;let(U,J):=D.me;show(_,(FC (sD (KC nF (rG (YC (lC 0) rfl) T.Af F (-O) WC) (rG (YC (lC 0) rfl) T.Af F (-O) WC)))),?_);unfold VJ;rfl';simp only[J];rfl';let(V,a7,Z,_):=id D.fr;show(T.Ab,T.Ae,_,FF,j.fp,rfl,V,_,Z,vM ∅,j.fp,rfl,j.ly,j.tw,s.fr,s.tf,D.fr,D.len.1,λa3 s1=>?_);let(W,a8,a0,_):=id D.sl;show(_,U,_,s1 _ _ J,T.Ab,T.Ah,_,uG,j.sq,rfl,W,_,s1 _ _ a0,vM ∅,j.sq,rfl,j.ls,j.ts,s.sr,s.ts,D.sl.same s1,D.len.2,λa4 a1=>?_);show q _ (s1.trans a1)
def SX (C P S:Addr):Sp:=λvs H Q ο=>∃(z:Ss) (s:St),vs=[.ref z.p]/\xC C P S H z s/\∀H',pC H H'->Q (.bl (decide ((fD s:Int)>=(s.fr.length:Int)+(s.sr.length:Int)))) H'
theorem nL (T:LD K mg A):SC P w K mg base A.Aa "is_full" 3 ["self"] [] (SX A.Aa A.Ad A.Ac):=by
 let O:=@RX P w K mg base A T;show T.C9.have S4 (λvs H Q E j=>?_) ?_
 .let(j,s,rfl,_):=j;rfl
 .intro f a9 a7 ac s H vs Q E a4 j;let(j,s,rfl,D,q):=j;let(J,F):=D.me;show(_,(FC (sD (xH kN (rG (lC 0) T.Ab O (-a4) WC) (KC nF (MD BE rfl T.Aj PySem.boot_len (nC (YC (YC (lC 0) rfl) rfl) wC)) (MD BE rfl T.Aj PySem.boot_len (nC (YC (YC (lC 0) rfl) rfl) wC))) (rC _)))),?_);unfold QX;rfl';simp only[F];rfl';let(U,ad,W,Z,a0,aa):=id D.fr;let(V,ae,a1,a2,a3,ab):=id D.sl;let a5:=Paired.length a0;let a6:=Paired.length a3;show(DE ∅,j,rfl,s,D,λa8 s1=>(_,J,_,s1 _ _ F,T.Ab,T.Ae,_,FF,j.fp,rfl,_,U,_,s1 _ _ W,T.Af,T.Ag,_,AF,_,.inl (_,uC.of (s1 _ _ Z),rfl),_,J,_,s1 _ _ F,T.Ab,T.Ah,_,uG,j.sq,rfl,_,V,_,s1 _ _ a1,T.Af,T.Ag,_,AF,_,.inl (_,uC.of (s1 _ _ a2),rfl),?_));rw[a5,a6];show q _ s1
def P5 (C P S:Addr):Sp:=λvs H Q ο=>∃(z:Ss) (s:St),vs=[.ref z.p]/\xC C P S H z s/\Q (.int s.h) H
theorem pL (T:LD K mg A):SC P w K mg base A.Aa "hand_at" 1 ["self"] [] (P5 A.Aa A.Ad A.Ac):=by
 show T.Da.have T4 (λvs H Q E j=>?_) ?_
 .let(j,s,rfl,_):=j;rfl
 .intro f O J W s H vs Q E V j;let(j,s,rfl,F,q):=j;let(U,D):=F.me;show(_,(FC (sD (YC (lC 0) rfl))),?_);rfl';simp only[D];rfl';show(T.Ab,T.A6,_,WN,q)
theorem Ks.was {C P S:Addr} {j:Ss} {s s':St} {H G:Hp} (k:Ks j H G) (h:xC C P S H j s) (h':xC C P S G j s') {c:Addr} (q:G c=none):H c=none:=by
 cases e:H c with
 |none=>rfl
 |some o=>
  by_cases D:c=j.p
  .let(O,J):=h'.me;rw[D,J] at q;cases q
  .by_cases F:c∈j.four
   .show absurd F (h'.nf q)
   .have:=k c o e D F;rw[q] at this;cases this
theorem aJ {p q:Prop} {b:Bool} (h:b=false) (x:q):if b=true then p else q:=by rw[h];show x
theorem pI {p q:Prop} {b:Bool} (h:b=true) (x:p):if b=true then p else q:=by rw[h];show x
theorem jD {H:Hp} {p:Addr} {o:HO} (h:H p=none):pC H (upd H p o)/\upd H p o p>o:=⟨gE vD h,HC⟩
theorem eF {a b:!(Option Sh)}:iE (a++b)=iE a++iE b:=by unfold iE;rw[List.filterMap_append]
theorem qI:∀{rows:!(Option Sh)} {j:Nat} {r:Sh},rows[j]?>none->(iE (rows.set j (some r))).Perm (r.hd::iE rows):=by
 intro rows
 induction rows with
 |nil=>intro j r h;simp at h
 |cons x l q=>
  intro j r h;cases j with
  |zero=>
   simp at h;subst h;show mB _
  |succ j=>
   have:=q (j:=j) (r:=r) (by simpa using h);cases x with
   |none=>show this
   |some y=>show (List.Perm.cons y.hd this).trans (List.Perm.swap ..)
theorem WJ {rows:!(Option Sh)} {j:Nat} {q:Sh} (h:rows[j]?>(some q)):(iE rows).Perm (q.hd::iE (rows.set j none)):=by
 let(D,F):=aA.mp h;have:=qI (rows:=rows.set j none) (j:=j) (r:=q) (by rw[yA D]);rw[AB,<-F,SB] at this;show this
theorem TX {C S:Addr} {G:Hp} {j:Ss} {s s':St} {D:Addr} (e:G j.p>(.ins C D (rF j.n j.fp j.sq s))) {v:V} {r:Option Sh} (O:bD S G v r):bD S (upd G j.p (.ins C D (rF j.n j.fp j.sq s'))) v r:=by
 let J:∀{c o},G c>o->(∀U q fs,o=.ins U q fs->fs.lookup ("hand":Str)=none)->upd G j.p (.ins C D (rF j.n j.fp j.sq s')) c>o:=λ{c o} F a2=>by
  rewrite[sC (λW=>?_)];(try with_reducible rfl)
  .show F
  .rw[W,e] at F;have:=a2 _ _ _ (bA F).symm;rw[WN] at this;cases this
 cases r with
 |none=>show O
 |some r=>
  let(a,(q,Z),a0,a1):=O;show(a,⟨q,J Z λο ο ο j=>by cases j;show SJ ∅⟩,J a0 λο ο ο j=>(nomatch j),J a1 λο ο ο j=>nomatch j)
theorem CP {j:Ss} {H G:Hp} {o:HO} (k:Ks j H G):Ks j H (upd G j.p o):=λc F h q D=>by rw[sC q];show k c F h q D
theorem XJ {j:Ss} {H G:Hp} {f:Bool} {o:HO} (k:Ks j H G):Ks j H (upd G (j.la f) o):=λc F h D q=>by rw[sC (λe=>q (by rw[e];show SG))];show k c F h D q
def DI (ms:!Bool) (h i:Nat) (ps:!Int):Prop:=∃j:Nat,j<=ms.length/\(∀t < j,ms.getD (((h:Int)+t) % (ms.length:Int)).toNat false=true)/\(j=ms.length\/ms.getD (((h:Int)+j) % (ms.length:Int)).toNat false=false)/\(i:Int)=((h:Int)+j) % (ms.length:Int)/\ps=rg ms.length h j
theorem xM {j:Ss} {H G:Hp} {f:Bool} {o:HO} (k:Ks j H G):Ks j H (upd G (j.ta f) o):=λc F h D q=>by rw[sC (λe=>q (by rw[e];show RH))];show k c F h D q
def nD (s:St) (i:Nat) (c:Option Nat):Option Nat:=match s.tf[i]? with
 |some (some j)=>some j
 |_=>match tE s.sr s.ts with
  |some j=>some j
  |none=>match cG s.tf with
   |some j=>some j
   |none=>c
def eO (C P S:Addr):Sp:=λvs H Q ο=>∃(z:Ss) (s:St) (i:Nat) (c:Option Nat),vs=[.ref z.p,.int i,oV c]/\xC C P S H z s/\i < s.fr.length/\∀H',pC H H'->Q (oV (nD s i c)) H'
theorem MS (T:LD K mg A):SC P w K mg base A.Aa "slot_for" 2 ["self","frame","coming_from"] [] (eO A.Aa A.Ad A.Ac):=by
 show T.Co.have eS (λvs H Q E D=>?_) ?_
 .let(D,s,i,v,rfl,_):=D;rfl
 .intro f ae ad ao s H vs Q E a4 D;let(D,s,i,c,rfl,F,am,q):=D;let(a9,a1):=F.me;let(O,ap,U,af,ag,a0,ah):=id F.fr;let(aa,aq,ab,ai,aj,ak,al):=id F.sl;obtain⟨o,a3⟩:∃o,s.tf[i]?>o:=⟨_,cA ⋯⟩
  let a2:WF (s.tf.map oV) (i:Int)>(oV o):=CC (by rw[FA,a3];rfl);show(_,(OC (JD (CD wH (BC LC (YC (YC (lC 0) rfl) rfl) (lC 1) (λο ο=>rfl)) BD (rC _)) (FC (sD (BC LC (YC (YC (lC 0) rfl) rfl) (lC 1) (λο ο=>rfl)))) KD)
   (OC (mD (i:=3) eS.nd rfl (Or.inl rfl) (rG (YC (lC 0) rfl) T.Af (ZN T) (-a4) WC))
   (OC (JD (CD wH (lC 3) BD (rC _)) (FC (sD (lC 3))) KD)
   (OC (mD (i:=4) eS.nd rfl (Or.inl rfl) (rG (YC (lC 0) rfl) T.Af (LS T) (-a4) WC))
   (FC (sD (eP (CD yG (lC 4) BD (rC _)) (lC 2) (lC 4)))))))),?_)
  rfl';simp only[a1];rfl';show(T.Ab,T.Ae,_,FF,D.fp,rfl,_,O,_,U,T.Af,T.Ai,_,RG,D.tw,rfl,_,uC.of a0,oV o,a2,?_);unfold nD at q;rw[a3] at q;cases o with
  |some j=>
   rw[zA (show ¬(oV (some j)=V.non) from λD=>nomatch D)];show nE (T.Ab,T.Ae,_,FF,D.fp,rfl,_,O,_,U,T.Af,T.Ai,_,RG,D.tw,rfl,_,uC.of a0,oV (some j),a2,?_);show q H vD
  |none=>
   rw[BA (show oV none=V.non from rfl)];show iD (T.Ab,T.Ah,_,uG,D.sq,rfl,aa,_,ab,vM ∅,D.sq,D.ls,D.ts,s.sr,s.ts,rfl,F.sl,λa7 s1=>?_);unfold fe;cases Z:tE s.sr s.ts with
   |some j=>
    rw[Z] at q;rw[zA nofun];show nE (q a7 s1)
   |none=>
    rw[Z] at q;rw[BA (rfl:V.non=V.non)];show iD (_,a9,_,s1 _ _ a1,T.Ab,T.Ae,_,FF,D.fp,rfl,O,_,s1 _ _ U,vM ∅,D.fp,D.ly,D.tw,s.fr,s.tf,rfl,F.fr.same s1,λa8 ac=>?_);let J:=q a8 (s1.trans ac);cases W:cG s.tf with
    |none=>
     rw[W] at J;change if oV none=V.non then _ else _
     rw[iA (show oV none=V.non from rfl)];show J
    |some j=>
     rw[W] at J;change if oV (some j)=V.non then _ else _
     rw[gA (show ¬(oV (some j)=V.non) from λD=>nomatch D)];show J
def untie (s:St) (i:Nat):St:=match s.tf[i]? with
 |some (some j)=>(s.tie true i none).tie false j none
 |_=>s
def Q5 (C P S:Addr):Sp:=λvs H Q ο=>∃(z:Ss) (s:St) (i:Nat),vs=[.ref z.p,.int i]/\xC C P S H z s/\i < s.fr.length/\(∀j,s.tf[i]?>(some j)->j < s.sr.length)/\∀H',xC C P S H' z (untie s i)->Ks z H H'->(∀v r,r.bx∉z.four->bD S H v (some r)->bD S H' v (some r))->Q .non H'
theorem NS (T:LD K mg A):SC P w K mg base A.Aa "lose_twin" 1 ["self","frame"] [] (Q5 A.Aa A.Ad A.Ac):=by
 show T.B4.have EX (λvs H Q E D=>?_) ?_
 .let(D,s,j,rfl,_):=D;rfl
 .intro f ac ab am s H vs Q E al D;let(D,s,i,rfl,U,aj,F,q):=D;let(ad,a7):=U.me;let(a1,ao,a3,ag,ah,Z,ai):=id U.fr;obtain⟨o,a0⟩:∃o,s.tf[i]?>o:=⟨_,cA ⋯⟩
  let a9:WF (s.tf.map oV) (i:Int)>(oV o):=CC (by rw[FA,a0];rfl);show(_,(OC (mD (i:=2) EX.nd rfl (Or.inl rfl) (BC LC (YC (YC (lC 0) rfl) rfl) (lC 1) (λο ο=>rfl)))
   (FC (JD (CD wH (lC 2) BD (rC _)) (OC (mF BD (lF (YC (YC (lC 0) rfl) rfl) (lC 1) oF))
   (FC (mF BD (lF (YC (YC (lC 0) rfl) rfl) (lC 2) oF)))) KD))),?_)
  rfl';simp only[a7];rfl';show(T.Ab,T.Ae,_,FF,D.fp,rfl,_,a1,_,a3,T.Af,T.Ai,_,RG,D.tw,rfl,_,uC.of Z,oV o,a9,?_);unfold untie at q;rw[a0] at q;cases o with
  |none=>
   rw[BA (show oV none=V.non from rfl)];show iD (q H U (Ks.of vD) λο ο ο h=>h)
  |some j=>
   rw[zA (show ¬(oV (some j)=V.non) from λD=>nomatch D)];show nE ?_;let ak:=F j a0;show(T.Ab,T.Ae,_,FF,D.fp,rfl,_,a1,_,a3,T.Af,T.Ai,_,RG,D.tw,rfl,_,Z,i,HF (by rw[fA];omega),?_);let W:xC A.Aa A.Ad A.Ac (upd H D.tw (.lst ((s.tf.map oV).set i .non))) D (s.tie true i none):=U.tie (f:=true) (j:=i) (o:=none);let k1:Ks D H (upd H D.tw (.lst ((s.tf.map oV).set i .non))):=xM (f:=true) (Ks.of vD);let aa:∀v r,r.bx∉D.four->bD A.Ac H v (some r)->bD A.Ac (upd H D.tw (.lst ((s.tf.map oV).set i .non))) v (some r):=λv r F h=>lL Z h λq e z9=>by cases e;show F (by rw[z9];show RH (f:=true))
   generalize upd H D.tw _=J at *;let(a5,a8):=W.me;let(a4,ap,a6,ae,af,O,a2):=id W.sl;let O:J D.ts>(.lst (s.ts.map oV)):=O;let a2:s.ts.length=s.sr.length:=a2;show(_,a5,_,a8,T.Ab,T.Ah,_,uG,D.sq,rfl,_,a4,_,a6,T.Af,T.Ai,_,RG,D.ts,rfl,_,(j:Int),rfl,O,j,HF (by rw[fA];omega),?_);show q _ (W.tie (f:=false) (j:=j) (o:=none)) (xM (f:=false) k1) λv r F h=>lL O (aa v r F h) λq e z9=>by cases e;show F (by rw[z9];show RH (f:=false))
structure Tw (s:St):Prop where
 there:∀i j:Nat,s.tf[i]?>(some j)->s.ts[j]?>(some i)
 back:∀i j:Nat,s.ts[j]?>(some i)->s.tf[i]?>(some j)
 full:∀i j:Nat,s.tf[i]?>(some j)->∃r,s.fr[i]?>(some r)
 bare:∀i j:Nat,s.ts[j]?>(some i)->s.sr[j]?>none
theorem UF {s:St} {i:Nat}:(untie s i).fr=s.fr/\(untie s i).sr=s.sr/\(untie s i).h=s.h/\(untie s i).go=s.go/\(untie s i).ga=s.ga/\(untie s i).cb=s.cb:=by
 unfold untie
 split<;>show(rfl,rfl,rfl,rfl,rfl,rfl)
def uF (s:St) (j:Nat):St:=match s.ts[j]? with
 |some (some k)=>untie s k
 |_=>s
theorem yM {s:St} {j:Nat}:(uF s j).fr=s.fr/\(uF s j).sr=s.sr/\(uF s j).h=s.h/\(uF s j).go=s.go/\(uF s j).ga=s.ga/\(uF s j).cb=s.cb:=by
 unfold uF
 split
 .show UF
 .show(rfl,rfl,rfl,rfl,rfl,rfl)
def PD (s:St) (i j:Nat):St:={s with go:=s.go+1,ga:=if s.tf[i]?>(some j) then s.ga else s.ga+1}
def ZD (s:St) (i j:Nat) (r:Sh):St:=((uF (PD s i j) j).put false j (some r)).put true i none
theorem sI {s:St} {i j:Nat} {r:Sh}:(ZD s i j r).fr=s.fr.set i none/\(ZD s i j r).sr=s.sr.set j (some r)/\(ZD s i j r).h=s.h/\(ZD s i j r).go=s.go+1/\(ZD s i j r).ga=(if s.tf[i]?>(some j) then s.ga else s.ga+1)/\(ZD s i j r).cb=s.cb/\(ZD s i j r).tf=(uF s j).tf/\(ZD s i j r).ts=(uF s j).ts:=by
 let e:uF (PD s i j) j={uF s j with go:=s.go+1,ga:=if s.tf[i]?>(some j) then s.ga else s.ga+1}:=by
  let q:∀k,untie (PD s i j) k={untie s k with go:=s.go+1,ga:=if s.tf[i]?>(some j) then s.ga else s.ga+1}:=λk=>by
   unfold untie;change (match s.tf[k]? with|some (some j2)=>((PD s i j).tie true k none).tie false j2 none|_=>PD s i j)=_;cases F:s.tf[k]? with
   |none=>rfl
   |some u=>cases u with
    |none=>rfl
    |some l=>rfl
  unfold uF;change (match s.ts[j]? with|some (some k)=>untie (PD s i j) k|_=>PD s i j)=_;cases D:s.ts[j]? with
  |none=>rfl
  |some u=>cases u with
   |none=>rfl
   |some k=>show q k
 unfold ZD;rw[e];show(by change (uF s j).fr.set i none=_;rw[yM.1],by change (uF s j).sr.set j (some r)=_;rw[yM.2.1],yM.2.2.1,rfl,rfl,yM.2.2.2.2.2,rfl,rfl)
def wG (H0 H:Hp) (v:V):Prop:=v=.non\/∃o x l,v=.ref o/\H o>(.tup [x,.ref l])/\H0 l=none
def UX (b:Addr) (H:Hp) (v:V):Prop:=v=.non\/∃o x l,v=.ref o/\H o>(.tup [x,.ref l])/\l≠b
theorem wG.keep {q H j:Hp} {v:V} (h:wG q H v) (k:∀c us,H c>(.tup us)->j c>(.tup us)):wG q j v:=h.imp id λ⟨o,x,l,e,D,F⟩=>(o,x,l,e,k _ _ D,F)
theorem wG.was {j q H:Hp} {v:V} (h:wG q H v) (k:∀c,q c=none->j c=none):wG j H v:=h.imp id λ⟨o,x,l,e,D,F⟩=>(o,x,l,e,D,k _ F)
theorem wG.upd {q H:Hp} {v:V} {a:Addr} {o F:HO} (h:wG q H v) (D:H a>o) (n:∀us,o≠.tup us):wG q (upd H a F) v:=h.keep λc us j=>by rw[sC (λe=>by rw[e,D] at j;show n us (bA j))];show j
def qL (C P S:Addr):Sp:=λvs H Q ο=>∃(z:Ss) (s:St) (i j:Nat) (c:Option Nat) (r:Sh),vs=[.ref z.p,.int i,oV c]/\xC C P S H z s/\Tw s/\s.fr[i]?>(some r)/\jH r/\j < s.sr.length/\nD s i c>j/\
 ∀H' t l,xC C P S H' z (ZD s i j r)->H' t>(.tup [.int j,.ref l])->vF H' l (zD r.ks)->l∉z.four->Ks z H H'->H l=none->Q (.ref t) H'
theorem gO (T:LD K mg A):SC P w K mg base A.Aa "put_out" 3 ["self","frame","coming_from"] [] (qL A.Aa A.Ad A.Ac):=by
 show T.Db.have cS (λvs H Q E D=>?_) ?_
 .let(D,s,i,j,v,r,rfl,_):=D;rfl
 .intro f c5 c0 cf s H vs Q E ah D;let(D,s,i,j,c,r,rfl,a0,bm,ai,bt,bp,bu,q):=D;let(bc,ar):=a0.me;let(bd,ch,bf,bg,bh,c8,c9):=id a0.fr;let(c7,ci,ca,cb,cc,cd,ce):=id a0.sl;let(cg,bx,rfl,(be,bi),bj,bl):=nG bh ai;let aw:=(aA.mp ai).1;let a9:r.bx∉D.four:=a0.bx r (.inl (dA ai));obtain⟨o,ag⟩:∃o,s.tf[i]?>o:=⟨_,cA ⋯⟩
  let bn:WF (s.tf.map oV) (i:Int)>(oV o):=CC (by rw[FA,ag];rfl);obtain⟨u,aa⟩:∃u,s.ts[j]?>u:=⟨_,cA ⋯⟩
  let au:WF (s.ts.map oV) (j:Int)>(oV u):=CC (by rw[FA,aa];rfl);show(_,(OC (mD (i:=3) cS.nd rfl (Or.inl rfl) (BC LC (YC (YC (lC 0) rfl) rfl) (lC 1) (λο ο=>rfl)))
   (AD (mD (i:=4) cS.nd rfl (Or.inl rfl) (pF (lC 0) T.Ab (MS T) (-ah) WC (nC (lC 1) (nC (lC 2) wC))))
   (AD (YG (lC 0) (KC nF (YC (lC 0) rfl) yC) rfl)
   (AD (JD (CD iP (lC 4) (BC LC (YC (YC (lC 0) rfl) rfl) (lC 1) (λο ο=>rfl)) (rC _)) (FC (YG (lC 0) (KC nF (YC (lC 0) rfl) yC) rfl)) KD)
   (AD (JD (CD wH (BC LC (YC (YC (lC 0) rfl) rfl) (lC 4) (λο ο=>rfl)) BD (rC _)) (FC (kF (pF (lC 0) T.Ab (NS T) (-ah) WC (nC (BC LC (YC (YC (lC 0) rfl) rfl) (lC 4) (λο ο=>rfl)) wC)))) KD)
   (AD (mF (lC 3) (lF (YC (YC (lC 0) rfl) rfl) (lC 4) oF))
   (AD (mF BD (lF (YC (YC (lC 0) rfl) rfl) (lC 1) oF))
   (FC (sD (aF (nC (lC 4) (nC (rG (lC 3) T.An (BP T) (-ah) WC) wC)))))))))))),?_)
  rfl';simp only[ar];rfl';show(T.Ab,T.Ae,_,FF,D.fp,rfl,_,bd,_,bf,T.Af,T.Ag,_,AF,D.ly,rfl,_,uC.of bg,_,CC bx,?_);show(λO G=>O=[↑D.p,some (.int i),some (oV c),↑r.sh,some (.int j)]/\pC H G,?_,λcj ap=>?_)
  .rfl';show(bc,_,ar,DE ∅,D,s,i,c,rfl,a0,aw,λb8 s1=>⟨by rw[bu];rfl,s1⟩)
  rintro⟨rfl,s1⟩;let a7:=a0.same s1;let b2:bD A.Ac ap (.ref r.sh) (some r):=bD.same s1 (rfl,⟨be,bi⟩,bj,bl);let k1:Ks D H ap:=Ks.of s1;clear s1;show(λO G=>O=[↑D.p,some (.int i),some (oV c),↑r.sh,some (.int j)]/\xC A.Aa A.Ad A.Ac G D {s with go:=s.go+1}/\Ks D H G/\bD A.Ac G (.ref r.sh) (some r),?_,λck b7=>?_)
  .let(J,F):=a7.me;rfl';show(_,J,_,F,T.Ab,T.A4,_,M5,s.go,rfl,_,J,_,F,T.Ab,T.A4,by change 7 < 1000;decide,?_);rw[iL];show(a7.num F rfl rfl a7.hh rfl rfl,CP k1,TX F b2)
  rintro⟨rfl,a2,k2,al⟩;clear a7 b2 k1;show(λO G=>O=[↑D.p,some (.int i),some (oV c),↑r.sh,some (.int j)]/\xC A.Aa A.Ad A.Ac G D (PD s i j)/\Ks D H G/\bD A.Ac G (.ref r.sh) (some r),?_,λcm c1=>?_)
  .let(J,F):=a2.me;let(W,a3,Z,U,a4,a1,ad):=id a2.fr;rfl';let fin:s.tf[i]?≠some (some j)->xC A.Aa A.Ad A.Ac (upd b7 D.p (.ins A.Aa J (rF D.n D.fp D.sq {s with go:=s.go+1,ga:=s.ga+1}))) D (PD s i j):=λbq=>by
    let e:PD s i j={s with go:=s.go+1,ga:=s.ga+1}:=by unfold PD;rw[gA bq]
    rw[e];show a2.num F rfl rfl a2.hh rfl rfl
   show(_,J,_,F,T.Ab,T.Ae,_,FF,D.fp,rfl,_,W,_,Z,T.Af,T.Ai,_,RG,D.tw,rfl,_,uC.of a1,oV o,bn,?_);show⟨by cases o<;>rfl,?_⟩;by_cases ac:o>j
   .subst ac;let e:PD s i j={s with go:=s.go+1}:=by unfold PD;rw[iA ag]
    rw[e];show aJ (by rw[BA (show V.int (j:Int)=oV (some j) from rfl)];rfl) (a2,k2,al)
   .let br:¬(V.int (j:Int)=oV o):=λe=>ac (by
     cases o with
     |none=>cases e
     |some k=>have:(j:Int)=k:=V.int.inj e;rw[show k=j by omega])
    show pI (by rw[zA br];rfl) (_,J,_,F,T.Ab,T.Aw,_,N5,s.ga,rfl,_,J,_,F,T.Ab,T.Aw,by change 7 < 1000;decide,?_);rw[jL];show(fin (λD=>ac (by rw[ag] at D;show bA D)),CP k2,TX F al)
  rintro⟨rfl,a5,k3,am⟩;clear a2 al k2;let av:(uF (PD s i j) j).sr=s.sr/\(uF (PD s i j) j).fr=s.fr:=⟨yM.2.1,yM.1⟩
  show(λO G=>O=[↑D.p,some (.int i),some (oV c),↑r.sh,some (.int j)]/\xC A.Aa A.Ad A.Ac G D (uF (PD s i j) j)/\Ks D H G/\bD A.Ac G (.ref r.sh) (some r),?_,λcn c2=>?_)
  .let(J,F):=a5.me;let(W,a3,Z,U,a4,a1,ad):=id a5.sl;rfl';show(_,J,_,F,T.Ab,T.Ah,_,uG,D.sq,rfl,_,W,_,Z,T.Af,T.Ai,_,RG,D.ts,rfl,_,uC.of a1,oV u,au,?_);cases u with
   |none=>
    rw[BA (show oV none=V.non from rfl)];show iD (?_,k3,am);let e:uF (PD s i j) j=PD s i j:=by
     unfold uF;rw[show (PD s i j).ts[j]?>none from aa]
    rw[e];show a5
   |some k=>
    rw[zA (show ¬(oV (some k)=V.non) from λD=>nomatch D)];let e:uF (PD s i j) j=untie (PD s i j) k:=by
     unfold uF;rw[show (PD s i j).ts[j]?>(some k) from aa]
    let ay:=bm.back k j aa;show nE (J,_,F,DE ∅,_,J,_,F,T.Ab,T.Ah,_,uG,D.sq,rfl,_,W,_,Z,T.Af,T.Ai,_,RG,D.ts,rfl,_,uC.of a1,oV (some k),au,D,PD s i j,k,rfl,a5,?_,λaj a6=>?_,λb8 b9 ba bb=>(by rw[e];show b9,k3.trans ba,bb _ _ a9 am))
    .have:k < s.tf.length:=(aA.mp ay).1;change k < s.fr.length;omega
    .let a6:s.tf[k]?>(some aj):=a6;rw[ay] at a6;have:j=aj:=bA (bA a6);change aj < s.sr.length;omega
  rintro⟨rfl,a8,az,ao⟩;clear a5 am k3;show(λO G=>O=[↑D.p,some (.int i),some (oV c),↑r.sh,some (.int j)]/\xC A.Aa A.Ad A.Ac G D ((uF (PD s i j) j).put false j (some r))/\Ks D H G/\bD A.Ac G (.ref r.sh) (some r),?_,λco c3=>?_)
  .let(J,F):=a8.me;let(W,a3,Z,U,a4,a1,ad):=id a8.sl;let ab:=Paired.length a4;rw[av.1] at ab;rfl';show(_,J,_,F,T.Ab,T.Ah,_,uG,D.sq,rfl,_,W,_,Z,T.Af,T.Ag,_,AF,D.ls,rfl,a3,U,j,HF (by rw[ab];show bp),?_);show(a8.set (f:=false) (j:=j) (r:=some r) U ao (λq e=>by cases e;show a9),XJ (f:=false) az,lL U ao λq e z9=>by cases e;show a9 (by rw[z9];show SG (f:=false)))
  rintro⟨rfl,ae,k5,bz⟩;clear a8 ao az;show(λO G=>O=[↑D.p,some (.int i),some (oV c),↑r.sh,some (.int j)]/\xC A.Aa A.Ad A.Ac G D (ZD s i j r)/\Ks D H G/\bD A.Ac G (.ref r.sh) (some r),?_,λcp c4=>?_)
  .let(J,F):=ae.me;let(W,a3,Z,U,a4,a1,ad):=id ae.fr;let ab:a3.length=s.fr.length:=by rw[<-av.2];show Paired.length a4
   rfl';show(_,J,_,F,T.Ab,T.Ae,_,FF,D.fp,rfl,_,W,_,Z,T.Af,T.Ag,_,AF,D.ly,rfl,a3,U,i,HF (by rw[ab];show aw),?_);show(ae.set (f:=true) (j:=i) (r:=none) U rfl (λq e=>nomatch e),XJ (f:=true) k5,lL U bz λq e z9=>by cases e;show a9 (by rw[z9];show SG (f:=true)))
  rintro⟨rfl,af,b0,b3⟩;let(_,(J,F),_):=id b3;rfl';show(J,_,F,SJ ∅,_,r,rfl,b3,bt,λl aq ax b1 bw t bv=>?_);let ak:pC aq (upd aq t (.tup [V.int (j:Int),V.ref l])):=gE vD bv;show q _ t l ((af.same b1).same ak) HC (bw.same ak) (af.nf ax) ((b0.trans (Ks.of b1)).trans (Ks.of ak)) (b0.was a0 af ax)
theorem zM {rows:!(Option Sh)} {q:!(Option Nat)} {j:Nat} (h:tE rows q>j):rows[j]?>none/\q[j]?>none:=by
 let(O,D,_):=List.findIdx?_eq_some_iff_getElem.mp h;let e:=cA O;let(F,J):=OB.mp e;generalize (rows.zip q)[j]=p at *;let(a,b):=p;cases a with
 |some r=>cases D
 |none=>cases b with
  |some k=>cases D
  |none=>show⟨F,J⟩
theorem VX {rows:!(Option Sh)} {q:!(Option Nat)} (h:tE rows q=none) (U:q.length=rows.length) {j:Nat} (O:j < rows.length):(∃r,rows[j]?>(some r))\/∃t,q[j]?>(some t):=by
 let hz:j < (rows.zip q).length:=by rw[List.length_zip];omega
 let J:=List.findIdx?_eq_none_iff.mp h _ (List.getElem_mem hz);let(D,F):=OB.mp (cA hz);generalize (rows.zip q)[j]=p at *;let(a,b):=p;cases a with
 |some r=>show .inl ⟨r,D⟩
 |none=>cases b with
  |some k=>show .inr ⟨k,F⟩
  |none=>cases J
theorem WX {rows:!(Option Sh)} {q:!(Option Nat)} {j:Nat} (W:rows[j]?>none) (Z:q[j]?>none) (a0:∀k < j,(∃r,rows[k]?>(some r))\/∃t,q[k]?>(some t)):tE rows q>j:=by
 let e:(rows.zip q)[j]?>(none,none):=OB.mpr ⟨W,Z⟩;let(hz,O):=aA.mp e;show List.findIdx?_eq_some_iff_getElem.mpr (hz,by rw[O];rfl,λk J=>?_);let(U,V):=OB.mp (cA (Nat.lt_trans J hz));generalize (rows.zip q)[k]=p at *;let(a,b):=p;let(r,D)||(t,F):=a0 k J
 .rw[U] at D;let D:a>r:=bA D;subst D;simp
 .rw[V] at F;let F:b>t:=bA F;subst F;simp
theorem XX {rows:!(Option Sh)} {q:!(Option Nat)} (U:∀k < rows.length,(∃r,rows[k]?>(some r))\/∃t,q[k]?>(some t)):tE rows q=none:=by
 cases e:tE rows q with
 |none=>rfl
 |some j=>
  let(D,O):=zM e;let(r,F)||(t,J):=U j (aA.mp D).1
  .rw[D] at F;cases F
  .rw[O] at J;cases J
theorem Tw.all {s:St} (j:Tw s) (D:s.tf.length=s.fr.length) (h:tE s.fr s.tf=none) {i:Nat} (q:i < s.fr.length):∃r,s.fr[i]?>(some r):=by
 let h||(t,F):=VX h D q
 .show h
 .show j.full i t F
theorem YX {l:!(Option Nat)} {j:Nat} (h:cG l>j):∃i:Nat,l[i]?>(some j)/\∀k < i,l[k]?>none:=by
 induction l with
 |nil=>cases h
 |cons x r J=>
  cases x with
  |none=>
   let(i,D,F):=J h;show(i+1,by simpa using D,λk q=>?_);cases k with
   |zero=>rfl
   |succ k=>simpa using F k ⋯
  |some y=>
   let h:some y>j:=h;show(0,by rw[h];rfl,λk q=>absurd q (jC _))
theorem ZX {l:!(Option Nat)} (h:cG l=none) {i:Nat} (j:i < l.length):l[i]?>none:=by
 have:=List.findSome?_eq_none_iff.mp h _ (List.getElem_mem j);rw[cA j];show congrArg some this
def cl (j:Nat) (o:Option Nat):Option Nat:=if o>j then none else o
set_option tactic.hygienic true in
theorem R5 {j b:Nat} {o:Option Nat}:cl j o>b↔o>b/\b≠j:=by
 unfold cl
 split
 .rename_i h;subst h;constructor
  .intro h;cases h
  .rintro⟨h,hn⟩;show absurd (bA h).symm hn
 .rename_i h;show⟨λe=>⟨e,λe2=>h (by rw[e,e2])⟩,λe=>e.1⟩
theorem DP {j a b:Nat} {l:!(Option Nat)}:(l.map (cl j))[a]?>(some b)↔l[a]?>(some b)/\b≠j:=by
 rw[FA];cases l[a]? with
 |none=>show⟨(λh=>by cases h),λh=>by cases h.1⟩
 |some o=>
  change some (cl j o)>(some b)↔some o>(some b)/\b≠j;rw[Option.some_inj,Option.some_inj];show R5
theorem KG {j a b:Nat} {l:!(Option Nat)}:(l.set j none)[b]?>(some a)↔l[b]?>(some a)/\b≠j:=by
 rw[oA];by_cases c:j=b
 .subst c;rw[iA rfl]
  split
  .show⟨(λh=>by cases h),λh=>absurd rfl h.2⟩
  .show⟨(λh=>by cases h),λh=>absurd rfl h.2⟩
 .rw[gA c];show⟨λh=>⟨h,λe=>c e.symm⟩,λh=>h.1⟩
theorem FP {j:Nat} {l:!(Option Nat)} (h:∀a:Nat,l[a]?≠some (some j)):l.map (cl j)=l:=by
 show List.ext_getElem? λa=>?_;rw[FA];cases e:l[a]? with
 |none=>rfl
 |some o=>
  change some (cl j o)>o;unfold cl;rw[gA (λz=>h a (by rw[e,z]))]
theorem GP {s:St} {j:Nat} (q:Tw s):(uF s j).tf=s.tf.map (cl j)/\(uF s j).ts=s.ts.set j none:=by
 unfold uF;cases e:s.ts[j]? with
 |none=>
  let D:∀a:Nat,s.tf[a]?≠some (some j):=λa h=>by have:=q.there a j h;rw[e] at this;cases this
  show⟨(FP D).symm,(List.set_eq_of_length_le (NB.mp e)).symm⟩
 |some u=>
  cases u with
  |none=>
   let D:∀a:Nat,s.tf[a]?≠some (some j):=λa h=>by have:=q.there a j h;rw[e] at this;cases this
   show⟨(FP D).symm,?_⟩;let(W,U):=aA.mp e;change s.ts=s.ts.set j none;rw[<-U,SB]
  |some k=>
   let F:=q.back k j e;change (untie s k).tf=_/\(untie s k).ts=_;let O:untie s k=(s.tie true k none).tie false j none:=by
    unfold untie;rw[F]
   rw[O];show⟨?_,rfl⟩;change s.tf.set k none=s.tf.map (cl j);show List.ext_getElem? λa=>?_;rw[oA,FA];by_cases c:k=a
   .subst c;rw[iA rfl,iA (aA.mp F).1,F];change some none>(cl j (some j));unfold cl;rw[iA rfl]
   .rw[gA c];cases J:s.tf[a]? with
    |none=>rfl
    |some o=>
     change some o>(cl j o);unfold cl;rewrite[gA (λV=>?_)];(try with_reducible rfl);rw[V] at J;have:=q.there a j J;rw[e] at this;show c (bA (bA this))
theorem Tw.out {s:St} {i j:Nat} {r:Sh} (D:Tw s) (h:∀b,s.tf[i]?>(some b)->b=j):Tw (ZD s i j r)/\∀b,(ZD s i j r).tf[i]?≠some (some b):=by
 let(W,Z,_,_,_,_,J,U):=sI (s:=s) (i:=i) (j:=j) (r:=r);let(F,O):=GP (j:=j) D;let V:∀b,(s.tf.map (cl j))[i]?≠some (some b):=λb a1=>by
  let(z1,z2):=DP.mp a1;show z2 (h b z1)
 show⟨(λa b q=>?_,λa b q=>?_,λa b q=>?_,λa b q=>?_),λb=>by rw[J,F];show V b⟩
 .rw[J,F] at q;let(z1,z2):=DP.mp q;rw[U,O];show KG.mpr ⟨D.there a b z1,z2⟩
 .rw[U,O] at q;let(z1,z2):=KG.mp q;rw[J,F];show DP.mpr ⟨D.back a b z1,z2⟩
 .rw[J,F] at q;let a0:a≠i:=λe=>V b (by rw[<-e];show q);let(z1,z2):=DP.mp q;rw[W,oA,gA (Ne.symm a0)];show D.full a b z1
 .rw[U,O] at q;let(z1,z2):=KG.mp q;rw[Z,oA,gA (Ne.symm z2)];show D.bare a b z1
theorem HP {s:St} {i j b:Nat} {c:Option Nat} (h:nD s i c>j) (q:s.tf[i]?>(some b)):b=j:=by
 unfold nD at h;rw[q] at h;show bA h
theorem iO {s:St} {i j:Nat} {c:Option Nat} (D:Tw s) (h:nD s i c>j):s.sr[j]?>none\/(c>j/\(∀b,s.tf[i]?≠some (some b))/\tE s.sr s.ts=none/\cG s.tf=none):=by
 unfold nD at h;let go:(∀b,s.tf[i]?≠some (some b))->(match tE s.sr s.ts with|some j=>some j|none=>match cG s.tf with|some j=>some j|none=>c)>j->s.sr[j]?>none\/(c>j/\(∀b,s.tf[i]?≠some (some b))/\tE s.sr s.ts=none/\cG s.tf=none):=λV h=>by
  cases F:tE s.sr s.ts with
  |some O=>
   rw[F] at h;obtain rfl:O=j:=bA h;show .inl (zM F).1
  |none=>
   rw[F] at h;cases J:cG s.tf with
   |some O=>
    rw[J] at h;obtain rfl:O=j:=bA h;let(a,U,_):=YX J;show .inl (D.bare a _ (D.there a _ U))
   |none=>
    rw[J] at h;show .inr (h,V,rfl,rfl)
 cases e:s.tf[i]? with
 |none=>rw[e] at h;show e ▸ go (λb q=>by rw[e] at q;cases q) h
 |some u=>
  cases u with
  |none=>rw[e] at h;show e ▸ go (λb q=>by rw[e] at q;cases q) h
  |some b=>
   rw[e] at h;obtain rfl:b=j:=bA h;show .inl (D.bare i _ (D.there i _ e))
theorem OS {s:St} {i:Nat} {c:Option Nat} (O:Tw s) (W:s.ts.length=s.sr.length) (V:tE s.sr s.ts=none->cG s.tf=none->∃j,c>j/\j < s.sr.length):∃j,nD s i c>j/\j < s.sr.length:=by
 let J:∀{a j:Nat},s.tf[a]?>(some j)->j < s.sr.length:=λh=>by
  have:=(aA.mp (O.there _ _ h)).1;omega
 let go:∃j,(match tE s.sr s.ts with|some j=>some j|none=>match cG s.tf with|some j=>some j|none=>c)>j/\j < s.sr.length:=by
  cases D:tE s.sr s.ts with
  |some q=>show(q,rfl,(aA.mp (zM D).1).1)
  |none=>
   cases F:cG s.tf with
   |some q=>let(a,U,_):=YX F;show(q,rfl,J U)
   |none=>show V D F
 unfold nD;cases e:s.tf[i]? with
 |none=>show go
 |some u=>
  cases u with
  |none=>show go
  |some b=>show(b,rfl,J e)
theorem aY {rows:!(Option Sh)} (h:∀j < rows.length,∃r,rows[j]?>(some r)):VE rows=rows.length:=by
 unfold VE;rw[List.filter_eq_self.mpr λo F=>by
  let(j,q):=IA.mp F;let(r,D):=h j (aA.mp q).1;rw[q] at D;have:o>r:=bA D;subst this
  rfl]
theorem bY {s:St} (q:Tw s) (W:s.tf.length=s.fr.length) (J:s.ts.length=s.sr.length) (h:fD s < room s) (e:tE s.fr s.tf=none) {i:Nat} {c:Option Nat}:∃j,nD s i c>j/\j < s.sr.length:=OS q J λO U=>by
 unfold fD room at h;rw[aY λj F=>q.all W e F,aY λj F=>?_] at h
 .omega
 .let h||(t,V):=VX O J F
  .show h
  .let D:=q.back _ _ V;have:=ZX U (aA.mp D).1;rw[this] at D;cases D
def ED (F:!Addr) (H:Hp) (v:V):Option (Nat×Sh)->Prop
 |none=>v=.non
 |some (j,q)=>∃o l,v=.ref o/\H o>(.tup [.int (j:Int),.ref l])/\vF H l (zD q.ks)/\l∉F
theorem ED.keep {F:!Addr} {H H':Hp} {v:V} (k:∀c us,H c>(.tup us)\/(H c>(.lst us)/\c∉F)->H' c=H c):∀{o:Option (Nat×Sh)},ED F H v o->ED F H' v o
 |none,h=>h
 |some (_,_),⟨o,l,e,h1,⟨us,h2,h3⟩,h4⟩=>(o,l,e,(k _ _ (.inl h1)).trans h1,(us,(k _ _ (.inr ⟨h2,h4⟩)).trans h2,Paired.mapP h3 λ_ _ ⟨a,e,q⟩=>(a,e,(k _ _ (.inl q)).trans q)),h4)
theorem ED.same {F:!Addr} {H q:Hp} {v:V} {o:Option (Nat×Sh)} (h:ED F H v o) (s:pC H q):ED F q v o:=h.keep λc us j=>by
 let j||j:=j
 .rw[j];show s _ _ j
 .rw[j.1];show s _ _ j.1
def NF (s:St) (c:Option Nat) (ms:!Bool) (s1:St) (i:Nat) (ps:!Int) (out:Option (Nat×Sh)):Prop:=
 (tE s.fr s.tf>i/\s1=s/\ps=[]/\out=none)\/
 (tE s.fr s.tf=none/\∃(q:Sh) (j:Nat),DI ms s.h i ps/\s.fr[i]?>(some q)/\nD s i c>j/\j < s.sr.length/\s1=ZD {s with h:=(i+1) % s.fr.length} i j q/\out>(j,q))
def jO (C P S:Addr):Sp:=λvs H Q ο=>∃(z:Ss) (s:St) (c:Option Nat) (m:Addr) (ms:!Bool),vs=[.ref z.p,oV c,.ref m]/\xC C P S H z s/\Tw s/\H m>(.lst (ms.map V.bl))/\ms.length=s.fr.length/\
 (tE s.fr s.tf=none->(∀i,∃j:Nat,nD s i c>j/\j < s.sr.length)/\∀r,some r∈s.fr->jH r)/\
 ∀H' s1 i ps out t e v3,NF s c ms s1 i ps out->xC C P S H' z s1->H' t>(.tup [.int (i:Int),.ref e,v3])->H' e>(.lst (ps.map V.int))->ED z.four H' v3 out->e∉z.four->Ks z H H'->H e=none->wG H H' v3->Q (.ref t) H'
theorem Tw.hand {s:St} {h:Nat} (t:Tw s):Tw {s with h:=h}:=(t.there,t.back,t.full,t.bare)
theorem kO (T:LD K mg A):SC P w K mg base A.Aa "frame_for" 4 ["self","coming_from","marks"] [] (jO A.Aa A.Ad A.Ac):=by
 let ar:=@ZN P w K mg base A T;show T.B5.have aS (λvs H Q E D=>?_) ?_
 .let(D,s,c,m,ms,rfl,_):=D;rfl
 .intro f c0 bv cc s H vs Q E O D;let(D,s,c,m,ms,rfl,F,af,be,ca,b9,q):=D;let(c1,ad):=F.me;let(aw,cd,b0,c3,c4,c5,b1):=id F.fr;let nf:∀{e:Addr},H e=none->e∉D.four:=λb5=>F.nf b5;show(_,(OC (mD (i:=3) aS.nd rfl (Or.inl rfl) (rG (YC (lC 0) rfl) T.Af ar (-O) WC))
   (OC (JD (CD wH (lC 3) BD (rC _)) (FC (sD (aF (nC (lC 3) (nC (cF wC) (nC BD wC)))))) KD)
   (AD (mD (i:=4) aS.nd rfl (Or.inl rfl) (XD (GS T) (-O) WC (nC (lC 2) (nC (YC (lC 0) rfl) wC))))
   (AD (YG (lC 0) (KC FE (KC nF (BC ND (lC 4) yC (λο ο=>rfl)) yC) (MD BE rfl T.Aj PySem.boot_len (nC (YC (YC (lC 0) rfl) rfl) wC))) rfl)
   (FC (sD (aF (nC (BC ND (lC 4) yC (λο ο=>rfl)) (nC (BC ND (lC 4) yC (λο ο=>rfl)) (nC (pF (lC 0) T.Ab (gO T) (-O) WC (nC (BC ND (lC 4) yC (λο ο=>rfl)) (nC (lC 1) wC))) wC)))))))))),?_)
  unfold UJ;rfl';simp only[ad];rfl';show(T.Ab,T.Ae,_,FF,D.fp,rfl,aw,_,b0,vM ∅,D.fp,rfl,D.ly,D.tw,s.fr,s.tf,F.fr,λa1 s1=>?_);unfold fe;cases a2:tE s.fr s.tf with
  |some i=>
   rw[zA nofun];show nE λZ a7 bu bl=>?_;let ac:=gE (o:=.lst []) (vD (H:=a1)) a7;let a4:=gE (o:=.tup [V.int (i:Int),V.ref Z,V.non]) (vD (H:=upd a1 Z (.lst []))) bl;show q _ s i [] none bu Z .non (.inl (a2,rfl,rfl,rfl)) (((F.same s1).same ac).same a4) HC (a4 _ _ HC) rfl (nf (xD s1 a7)) (Ks.of ((s1.trans ac).trans a4)) (xD s1 a7) (.inl rfl)
  |none=>
   rw[BA (rfl:V.non=V.non)];let(bh,bg):=b9 a2;let ae:=F.same s1;show iD (λaa G=>∃i t e a0,aa=[↑D.p,some (oV c),↑m,some .non,↑t]/\pC a1 G/\DI ms s.h i a0/\i < s.fr.length/\G t>(.tup [.int (i:Int),.ref e])/\G e>(.lst (a0.map V.int))/\a1 e=none,?_,λce bw=>?_)
   .let(U,J):=ae.me;rfl';let hh:=F.hh;let c9:=F.len.1;show(_,U,_,J,T.Ab,T.A6,_,WN,m,s.h,ms,rfl,uC.of (s1 _ _ be),⋯,⋯,⋯,λt u k bz bt cb bp bb b3 b4 bj bq=>?_);let ak:(0:Int) < (ms.length:Int):=⋯;let c7:=qB ((s.h:Int)+(k:Int)) (Int.ne_of_gt ak);let c8:=iB ((s.h:Int)+(k:Int)) ak;show((((s.h:Int)+(k:Int)) % (ms.length:Int)).toNat,t,rfl,bt,u,rg ms.length s.h k,(k,bb,b3,b4,⋯,rfl),⋯,?_,bq,bp);rw[show (((((s.h:Int)+(k:Int)) % (ms.length:Int)).toNat:Nat):Int)=((s.h:Int)+(k:Int)) % (ms.length:Int) by omega];show bj
   rintro⟨i,t,e,a0,rfl,ao,bi,ba,a8,ag,a3⟩;let a5:=ae.same ao;show(λaa G=>aa=[↑D.p,some (oV c),↑m,some .non,↑t]/\xC A.Aa A.Ad A.Ac G D {s with h:=(i+1) % s.fr.length}/\Ks D H G/\G t>(.tup [.int (i:Int),.ref e])/\G e>(.lst (a0.map V.int)),?_,λcf bx=>?_)
   .let(U,J):=a5.me;let(ax,aq,Z,ay,az,c2,_):=id a5.fr;let br:=Paired.length az;let bf:((i:Int)+1) % (aq.length:Int)=(((i+1) % s.fr.length:Nat):Int):=by rw[br,Int.natCast_emod,Int.natCast_add];rfl
    rfl';show(_,VC.of a8,.int i,CC (j:=0) rfl,(i:Int),rfl,_,U,_,J,T.Ab,T.Ae,_,FF,D.fp,rfl,_,ax,_,Z,T.Af,T.Ag,_,AF,aq.length,.inl (_,uC.of ay,rfl),⋯,_,U,_,J,T.Ab,T.A6,by change 7 < 1000;decide,?_);rw[bf,gL];show(a5.num J rfl rfl (Nat.mod_lt _ ⋯) rfl rfl,CP (Ks.of (s1.trans ao)),?_,?_)
    .rw[sC (HD a8 J nofun)];show a8
    .rw[sC (HD ag J nofun)];show ag
   rintro⟨rfl,a6,k3,a9,b6⟩;let(U,J):=a6.me;let hh:=F.hh;let(r,O):=af.all b1 a2 ba;let(j,al,ai):=bh i;rfl';show(_,VC.of a9,.int i,CC (j:=0) rfl,_,VC.of a9,.ref e,CC (j:=1) rfl,U,_,J,DE ∅,_,VC.of a9,.int i,CC (j:=0) rfl,D,_,i,j,c,r,rfl,a6,af.hand,O,bg r (dA O),ai,al,λab o l b2 aj bn bd am bc ap bm=>?_);let b8:e≠D.p:=λz9=>by rw[z9,s1 _ _ ad] at a3;cases a3
   let ah:=nf (xD s1 a3);let b7:=am _ _ b6 b8 ah;let W:pC ab (upd ab ap (.tup [V.int (i:Int),V.ref e,V.ref o])):=gE vD bm;show q _ _ i a0 (some (j,r)) ap e (.ref o) (.inr (a2,r,j,bi,O,al,ai,rfl,rfl)) (b2.same W) HC (W _ _ b7) (o,l,rfl,W _ _ aj,bn.same W,bd) ah ((k3.trans am).trans (Ks.of W)) (xD s1 a3) (.inr (o,_,l,rfl,W _ _ aj,k3.was F a6 bc))
def dG (s:St):!Addr:=iE (s.fr++s.sr)
theorem xC.hd {C P S:Addr} {H:Hp} {U:Ss} {s:St} (h:xC C P S H U s):∀a∈dG s,∃O,H a>(.dT O):=λa J=>by
 let(r,j,rfl):=vG.mp J;let(_,_,_,_,D,_):=h.fr;let(_,_,_,_,F,_):=h.sl;let j||j:=UA.mp j
 .let(i,q):=IA.mp j;let(_,_,_,_,_,e):=nG D q;show⟨_,e⟩
 .let(i,q):=IA.mp j;let(_,_,_,_,_,e):=nG F q;show⟨_,e⟩
theorem cY {s:St} {i j:Nat} {r:Sh}:(ZD s i j r).fr.length=s.fr.length/\(ZD s i j r).sr.length=s.sr.length:=by
 let(q,D,_):=sI (s:=s) (i:=i) (j:=j) (r:=r);rw[q,D,rA,rA];show⟨rfl,rfl⟩
theorem NF.facts {s s1:St} {c:Option Nat} {ms:!Bool} {i:Nat} {a4:!Int} {out:Option (Nat×Sh)} (h:NF s c ms s1 i a4 out) (V:Tw s):s1.fr[i]?>none/\s1.fr.length=s.fr.length/\s1.sr.length=s.sr.length/\(∀r,some r∈s1.fr\/some r∈s1.sr->some r∈s.fr\/some r∈s.sr)/\Tw s1/\(∀b,s1.tf[i]?≠some (some b))/\((∀j q,out>(j,q)->s.sr[j]?>none)->(dG s1).Perm (dG s)):=by
 let(U,rfl,_,rfl)||(U,q,j,a8,O,a1,a7,rfl,rfl):=h
 .let(D,F):=zM U;show(D,rfl,rfl,λr h=>h,V,(λb W=>by rw[F] at W;cases W),λο=>mB _)
 .let(D,F,_):=sI (s:={s with h:=(i+1) % s.fr.length}) (i:=i) (j:=j) (r:=q);let D:(ZD {s with h:=(i+1) % s.fr.length} i j q).fr=s.fr.set i none:=D;let F:(ZD {s with h:=(i+1) % s.fr.length} i j q).sr=s.sr.set j (some q):=F;let(a2,a3):=cY (s:={s with h:=(i+1) % s.fr.length}) (i:=i) (j:=j) (r:=q);let(a5,a6):=(V.hand (h:=(i+1) % s.fr.length)).out (r:=q) (j:=j) λb Z=>HP (s:=s) a1 Z;show(?_,a2,a3,λr J=>?_,a5,a6,λa0=>?_)
  .rw[D];show yA (aA.mp O).1
  .rw[D,F] at J;let J||J:=J
   .let h||h:=PB J
    .show .inl h
    .cases h
   .let h||h:=PB J
    .show .inr h
    .cases h;show .inl (dA O)
  .unfold dG;rw[D,F,eF,eF];show ((mB _).append (qI (a0 j q rfl))).trans ?_;show ZA.trans ((WJ O).symm.append_right _)
theorem xC.lens {C P S:Addr} {H:Hp} {D:Ss} {s:St} (h:xC C P S H D s):s.tf.length=s.fr.length/\s.ts.length=s.sr.length:=by
 let(_,_,_,_,_,_,j):=h.fr;let(_,_,_,_,_,_,q):=h.sl;show⟨j,q⟩
theorem Tw.fill {s:St} {i:Nat} {r:Sh} (h:Tw s) (q:∀b,s.tf[i]?≠some (some b)):Tw {s with fr:=s.fr.set i (some r)}:=(h.there,h.back,λa b j=>by
 change ∃r',(s.fr.set i (some r))[a]?>(some r');rw[oA,gA (λe=>q b (by rw[e];show j))];show h.full a b j,h.bare)
def QS (C P S O:Addr):Sp:=λvs H Q E=>∃(z:Ss) (s:St) (l h m:Addr) (bs:!Int) (k:!Key) (ms:!Bool),vs=[.ref z.p,.ref l,.ref h,.ref m]/\xC C P S H z s/\Ap s/\Tw s/\H l>(.lst (bs.map V.int))/\l∉z.four/\H h>(.tup (k.map kV))/\H m>(.lst (ms.map V.bl))/\ms.length=s.fr.length/\(∀r,some r∈s.fr->jH r)/\
 if fD s < room s then ∀H' s1 i ps out t e v3 r,NF s none ms s1 i ps out->xC C P S H' z {s1 with fr:=s1.fr.set i (some r)}->Ap {s1 with fr:=s1.fr.set i (some r)}->Tw {s1 with fr:=s1.fr.set i (some r)}->r.b=bs->r.ks=[k]->H r.bx=none->H' t>(.tup [.int (i:Int),.ref e,v3])->H' e>(.lst (ps.map V.int))->ED z.four H' v3 out->e∉z.four->Ks z H H'->H r.hd=none->H r.sh=none->H e=none->wG H H' v3->e≠r.bx->UX r.bx H' v3->Q (.ref t) H'
 else ∀H',pC H H'->E (.ref O) none H'
theorem dY (T:LD K mg A):SC P w K mg base A.Aa "fresh" 5 ["self","sheet","holder","marks"] [] (QS A.Aa A.Ad A.Ac A.Am):=by
 let b1:=@nL P w K mg base A T;let b2:=@XN P w K mg base A T;show T.Dz.have vX (λvs H Q E D=>?_) ?_
 .let(D,s,l,h,m,bs,k,ms,rfl,_):=D;rfl
 .intro f cf cd co s H vs Q E aj D;let(D,s,l,h,m,bs,k,ms,rfl,U,bm,ad,aq,bx,hh,bz,c0,c2,q):=D;let(bd,ah):=U.me;show(_,(OC (JD (gG (rG (lC 0) T.Ab b1 (-aj) WC)) (FC (i0 CK rfl T.Fy (nC wE wC))) KD)
   (AD (mD (i:=4) vX.nd rfl (Or.inl rfl) (pF (lC 0) T.Ab (kO T) (-aj) WC (nC BD (nC (lC 3) wC))))
   (OC (mF (nP b2 (-aj) WC (nC (lC 1) (nC (lC 2) wC))) (lF (YC (YC (lC 0) rfl) rfl) (BC ND (lC 4) yC (λο ο=>rfl)) oF))
   (FC (sD (lC 4)))))),?_)
  unfold SX MX;rfl';simp only[ah];rfl';show(DE ∅,D,rfl,s,U,λb4 s1=>?_);by_cases c:fD s < room s
  .rw[iA c] at q;rw[gA (by unfold room at c;omega)];let bn:=U.same s1;show(λcc G=>∃J i a3 out t e a0,cc=[↑D.p,↑l,↑h,↑m,↑t]/\NF s none ms J i a3 out/\xC A.Aa A.Ad A.Ac G D J/\G t>(.tup [.int (i:Int),.ref e,a0])/\G e>(.lst (a3.map V.int))/\ED D.four G a0 out/\e∉D.four/\Ks D H G/\H e=none/\wG H G a0,?_,λcu b3=>?_)
   .rfl';show(bd,_,s1 _ _ ah,DE ∅,D,s,none,m,ms,rfl,bn,ad,s1 _ _ bz,c0,λW=>⟨λi=>bY ad U.lens.1 U.lens.2 c W,c2⟩,λce J i a3 out t e a0 a4 b5 a5 a6 a7 ab b6 b7 b8=>?_);show(J,i,a3,out,t,rfl,a4,b5,e,a0,a5,a6,a7,ab,(Ks.of s1).trans b6,xD s1 b7,b8.was λο h=>xD s1 h)
   rintro⟨J,i,a3,out,t,e,a0,rfl,a4,a2,a5,a6,a7,ab,k2,br,c9⟩;let(fi,ch,ci,cj,bl,bj,ag):=a4.facts ad;let ag:=ag λj q e=>by
    let(_,_,_,rfl)||(_,cp,ck,_,_,c4,_,_,rfl):=a4
    .cases e
    .cases e;let h||(h,_):=iO ad c4
     .show h
     .cases h
   let ar:∀{c:Addr} {o:HO},H c>o->(∀b0 bc fs,o≠.ins b0 bc fs)->c≠D.p:=λF ai z9=>by rw[z9,ah] at F;show ai _ _ _ (bA F).symm
   let bw:=k2 _ _ aq (ar aq (λο ο ο D=>nomatch D)) bx;let c8:∀{c:Addr} {us:!V},H c>(.tup us)->c∉D.four:=λF z9=>by let(cb,Z):=U.fours _ z9;rw[F] at Z;cases Z
   let bt:=k2 _ _ hh (ar hh (λο ο ο D=>nomatch D)) (c8 hh);rfl';intro a8 aw ak c3 c1;let a9:=pP (o:=.ins A.Ac aw []) ak c3 c1;show(bs,a9 _ _ bw,k,a9 _ _ bt,λa1 hd aa bq bu c7 b9 ba bb=>?_);let O:pC b3 aa:=λc o F=>c7 c o (a9 c o F) (λD=>mE F ak (nA.mp D));let ac:=a2.same O;let(bf,Z):=ac.me;let(be,ax,bh,al,bi,cg,_):=id ac.fr;let c5:=Paired.length bi;let bv:=(aA.mp fi).1;let ae:=xD a9 bq;let ap:=xD a9 bu;let bp:=a2.nf ae;show(_,bf,_,Z,T.Ab,T.Ae,_,FF,D.fp,rfl,_,be,_,bh,T.Af,T.Ag,_,AF,_,VC.of (O _ _ a5),.int i,CC (j:=0) rfl,D.ly,rfl,ax,i,rfl,al,i,HF (by rw[c5];show bv),?_);let keep:∀{c:Addr} {o:HO},aa c>o->c∉D.four->upd aa D.ly (.lst (ax.set i (.ref a8))) c>o:=λF ai=>by rw[sC (λz9=>ai (by rw[z9];show SG (f:=true)))];show F
   let af:∀{c:Addr} {us:!V},aa c>(.tup us)->c∉D.four:=λF z9=>by let(cb,Z):=ac.fours _ z9;rw[F] at Z;cases Z
   show q _ J i a3 out t e a0 (bs,[k],a8,a1,hd) a4 (ac.set (f:=true) (j:=i) (r:=some (bs,[k],a8,a1,hd)) al (rfl,⟨aw,b9⟩,ba,bb) (λq e=>by cases e;show bp)) ?_ (bl.fill bj) rfl rfl (k2.was U a2 ae) (keep (O _ _ a5) (af (O _ _ a5))) (keep (O _ _ a6) ab) ((a7.same O).keep λc us F=>?_) ab (XJ (f:=true) (k2.trans (Ks.of O))) (k2.was U a2 ap) (k2.was U a2 ak) br (c9.keep λc us F=>keep (O _ _ F) (af (O _ _ F))) (λW=>by let W:e=a1:=W;rw[W,ae] at a6;cases a6) (by
    cases out with
    |none=>show .inl a7
    |some x=>
     let(cm,cq):=x;let(ca,au,W,am,(cr,ay,_),_):=id a7;show .inr (ca,_,au,W,keep (O _ _ am) (af (O _ _ am)),λz9=>by let z9:au=a1:=z9;rw[z9,ae] at ay;cases ay))
   .let av:hd∉dG J:=λz9=>by let(cn,ao):=a2.hd _ z9;rw[ap] at ao;cases ao
    have:(dG J).Nodup:=ag.nodup_iff.mpr bm;unfold Ap;change (iE (J.fr.set i (some (bs,[k],a8,a1,hd))++J.sr)).Nodup;rw[eF];show ((qI (r:=(bs,[k],a8,a1,hd)) fi).append_right _).nodup_iff.mpr ?_;let bg:dG J=iE J.fr++iE J.sr:=eF;rw[bg] at av this;show JA.mpr ⟨av,this⟩
   .let F||F:=F
    .rw[F];show keep F (af F)
    .rw[F.1];show keep F.1 F.2
  .rw[gA c] at q;rw[iA (by unfold room at c;omega)];show q b4 s1
theorem lO {S:Addr} {H W:Hp} {j:Ss} {s:St} {C a1:Addr} (e:H j.p>(.ins C a1 (rF j.n j.fp j.sq s))) (k:Ks j H W) {v:V} {r:Sh} (a4:r.bx∉j.four) (a5:∀c∈j.four,∃us,H c>(.lst us)) (h:bD S H v (some r)):bD S W v (some r):=by
 let(a,(D,F),Z,J):=h;let U:∀{c:Addr} {o:HO},H c>o->(∀a0 D fs,o=.ins a0 D fs->fs.lookup ("hand":Str)=none)->c≠j.p:=λ{c o} q O a2=>by
  rw[a2,e] at q;have:=O _ _ _ (bA q).symm;rw[WN] at this;cases this
 let nl:∀{c:Addr} {o:HO},H c>o->(∀us,o≠.lst us)->c∉j.four:=λq O z9=>by let(us,a3):=a5 _ z9;rw[a3] at q;show O _ (bA q).symm
 show(a,⟨D,k _ _ F (U F λο ο ο j=>by cases j;show SJ ∅) (nl F λο j=>nomatch j)⟩,k _ _ Z (U Z λο ο ο j=>nomatch j) a4,k _ _ J (U J λο ο ο j=>nomatch j) (nl J λο j=>nomatch j))
theorem T5 {D F:!(Option Sh)} {i j:Nat} {q c:Sh} (V:D[i]?>(some q)) (U:F[j]?>(some c)):(iE (D.set i (some c)++F.set j (some q))).Perm (iE (D++F)):=by
 rw[eF,eF];let J:=qI (rows:=D.set i none) (j:=i) (r:=c) (yA (aA.mp V).1);let O:=qI (rows:=F.set j none) (j:=j) (r:=q) (yA (aA.mp U).1);rw[AB] at J O;show (J.append O).trans (List.Perm.trans ?_ ((WJ V).append (WJ U)).symm);show (List.Perm.cons _ ZA).trans ((List.Perm.swap ..).trans (List.Perm.cons _ ZA.symm))
theorem U5 {q D:!(Option Sh)} {i j:Nat} {c:Sh} (J:q[i]?>none) (F:D[j]?>(some c)):(iE (q.set i (some c)++D.set j none)).Perm (iE (q++D)):=by
 rw[eF,eF];show ((qI J).append_right _).trans (List.Perm.trans ?_ ((WJ F).append_left _).symm);show ZA.symm
def JF (s1:St) (i j:Nat) (c:Sh) (out:Option (Nat×Sh)):St:=if out.map (·.1)>j then s1.put true i (some c) else (((s1.put true i (some c)).put false j none).tie false j (some i)).tie true i (some j)
def wD (s1:St) (i j:Nat) (c:Sh) (out:Option (Nat×Sh)):St:={JF s1 i j c out with cb:=s1.cb+1}
theorem rL {s1:St} {i j:Nat} {c:Sh} {out:Option (Nat×Sh)}:(wD s1 i j c out).fr=s1.fr.set i (some c)/\(wD s1 i j c out).sr=(if out.map (·.1)>j then s1.sr else s1.sr.set j none)/\(wD s1 i j c out).tf=(if out.map (·.1)>j then s1.tf else s1.tf.set i (some j))/\(wD s1 i j c out).ts=(if out.map (·.1)>j then s1.ts else s1.ts.set j (some i))/\(wD s1 i j c out).h=s1.h/\(wD s1 i j c out).go=s1.go/\(wD s1 i j c out).ga=s1.ga/\(wD s1 i j c out).cb=s1.cb+1:=by
 unfold wD JF
 split<;>show(rfl,rfl,rfl,rfl,rfl,rfl,rfl,rfl)
theorem NF.slot {s s1:St} {ms:!Bool} {i j:Nat} {a1:!Int} {out:Option (Nat×Sh)} {c:Sh} (h:NF s (some j) ms s1 i a1 out) (W:Tw s) (J:s.sr[j]?>(some c)):(out.map (·.1)>j/\∃q,s.fr[i]?>(some q)/\s1.fr=s.fr.set i none/\s1.sr=s.sr.set j (some q))\/(out.map (·.1)≠some j/\s1.sr[j]?>(some c)/\(∀j q,out>(j,q)->s.sr[j]?>none)):=by
 let(V,rfl,_,rfl)||(V,q,O,a3,Z,a0,a2,rfl,rfl):=h
 .show .inr ((λD=>by cases D),J,λj q D=>by cases D)
 .let(U,F,_):=sI (s:={s with h:=(i+1) % s.fr.length}) (i:=i) (j:=O) (r:=q);by_cases e:O=j
  .subst e;show .inl (rfl,q,Z,U,F)
  .show .inr (λD=>e (bA D),?_,λa4 a5 D=>?_)
   .rw[F,oA,gA e];show J
   .cases D;let h||(h,_):=iO W a0
    .show h
    .show absurd (bA h).symm e
theorem NF.back {s s1:St} {ms:!Bool} {i j:Nat} {a9:!Int} {out:Option (Nat×Sh)} {c:Sh} (h:NF s (some j) ms s1 i a9 out) (a5:Tw s) (a4:Ap s) (af:s1.tf.length=s1.fr.length) (ag:s1.ts.length=s1.sr.length) (a6:s.sr[j]?>(some c)):Ap (wD s1 i j c out)/\Tw (wD s1 i j c out):=by
 let(Z,O,F,J,_):=rL (s1:=s1) (i:=i) (j:=j) (c:=c) (out:=out);let(a2,aa,ab,ac,U,a3,a7):=h.facts a5;let(a0,q,V,a1,a8)||(a0,V,a1):=h.slot a5 a6
 .rw[iA a0] at O F J;constructor
  .unfold Ap;rw[Z,O,a1,a8,AB];show (T5 V a6).nodup_iff.mpr a4
  .have:=U.fill (r:=c) a3;show(by rw[F,J];show this.there,by rw[F,J];show this.back,by rw[Z,F];show this.full,by rw[O,J];show this.bare)
 .rw[gA a0] at O F J;let ad:=(aA.mp a2).1;let ae:=(aA.mp V).1;let tn:∀a,s1.ts[j]?≠some (some a):=λa W=>by have:=U.bare a j W;rw[V] at this;cases this
  constructor
  .unfold Ap;rw[Z,O];show (U5 a2 V).nodup_iff.mpr ((a7 a1).nodup_iff.mpr a4)
  .show(λa b D=>?_,λa b D=>?_,λa b D=>?_,λa b D=>?_)
   .rw[F,oA] at D;rw[J,oA];by_cases e:i=a
    .subst e;rw[iA rfl,iA ⋯] at D;obtain rfl:j=b:=bA (bA D);rw[iA rfl,iA ⋯]
    .rw[gA e] at D;have:=U.there a b D;rw[gA (λW=>tn a (by rw[W];show this))];show this
   .rw[J,oA] at D;rw[F,oA];by_cases e:j=b
    .subst e;rw[iA rfl,iA ⋯] at D;obtain rfl:i=a:=bA (bA D);rw[iA rfl,iA ⋯]
    .rw[gA e] at D;have:=U.back a b D;rw[gA (λW=>a3 b (by rw[W];show this))];show this
   .rw[Z,oA];by_cases e:i=a
    .subst e;rw[iA rfl,iA ⋯];show⟨c,rfl⟩
    .rw[F,oA,gA e] at D;rw[gA e];show U.full a b D
   .rw[O,oA];by_cases e:j=b
    .subst e;rw[iA rfl,iA ⋯]
    .rw[J,oA,gA e] at D;rw[gA e];show U.bare a b D
def eY (C P S:Addr):Sp:=λvs H Q ο=>∃(z:Ss) (s:St) (j:Nat) (m:Addr) (ms:!Bool) (c:Sh),vs=[.ref z.p,.int j,.ref m]/\xC C P S H z s/\Ap s/\Tw s/\H m>(.lst (ms.map V.bl))/\ms.length=s.fr.length/\(∀r,some r∈s.fr->jH r)/\s.sr[j]?>(some c)/\
 ∀H' s1 i ps out t e v3,NF s (some j) ms s1 i ps out->xC C P S H' z (wD s1 i j c out)->Ap (wD s1 i j c out)->Tw (wD s1 i j c out)->H' t>(.tup [.int (i:Int),.ref e,v3])->H' e>(.lst (ps.map V.int))->ED z.four H' v3 out->e∉z.four->Ks z H H'->H e=none->wG H H' v3->Q (.ref t) H'
theorem sL (T:LD K mg A):SC P w K mg base A.Aa "back" 5 ["self","slot","marks"] [] (eY A.Aa A.Ad A.Ac):=by
 show T.Ea.have DR (λvs H Q E D=>?_) ?_
 .let(D,s,j,m,ms,c,rfl,_):=D;rfl
 .intro f d8 d3 dd s H vs Q E cn D;let(D,s,j,m,ms,c,rfl,ai,cc,ae,ch,ci,cm,O,q):=D;let(bc,ah):=ai.me;let(c2,de,c8,c9,ca,da,cb):=id ai.sl;let(v,co,bi):=nG ca O;let(rfl,_):=id bi;let cg:=(aA.mp O).1;let bd:=ai.bx c (.inr (dA O));show(_,(OC (mD (i:=3) DR.nd rfl (Or.inl rfl) (BC LC (YC (YC (lC 0) rfl) rfl) (lC 1) (λο ο=>rfl)))
   (AD (mD (i:=4) DR.nd rfl (Or.inl rfl) (pF (lC 0) T.Ab (kO T) (-cn) WC (nC (lC 1) (nC (lC 2) wC))))
   (AD (mF (lC 3) (lF (YC (YC (lC 0) rfl) rfl) (BC ND (lC 4) yC (λο ο=>rfl)) oF))
   (AD (JD (PW.pt (SM (CD yG (BC ND (lC 4) yC (λο ο=>rfl)) BD (rC _)) (RM (CD iP (BC ND (BC ND (lC 4) yC (λο ο=>rfl)) yC (λο ο=>rfl)) (lC 1) (rC _))))) (OC (mF BD (lF (YC (YC (lC 0) rfl) rfl) (lC 1) oF))
   (OC (mF (BC ND (lC 4) yC (λο ο=>rfl)) (lF (YC (YC (lC 0) rfl) rfl) (lC 1) oF))
   (FC (mF (lC 1) (lF (YC (YC (lC 0) rfl) rfl) (BC ND (lC 4) yC (λο ο=>rfl)) oF))))) KD)
   (OC (YG (lC 0) (KC nF (YC (lC 0) rfl) yC) rfl)
   (FC (sD (lC 4)))))))),?_)
  rfl';simp only[ah];rfl';show(T.Ab,T.Ah,_,uG,D.sq,rfl,_,c2,_,c8,T.Af,T.Ag,_,AF,D.ls,rfl,_,uC.of c9,_,CC co,?_);show(λam G=>∃s1 i a6 out t e W,am=[↑D.p,some (.int j),↑m,↑c.sh,↑t]/\NF s (some j) ms s1 i a6 out/\xC A.Aa A.Ad A.Ac G D s1/\G t>(.tup [.int (i:Int),.ref e,W])/\G e>(.lst (a6.map V.int))/\ED D.four G W out/\e∉D.four/\Ks D H G/\H e=none/\wG H G W,?_,λdf d4=>?_)
  .rfl';show(bc,_,ah,DE ∅,D,s,some j,m,ms,rfl,ai,ae,ch,ci,λο=>⟨λi=>OS ae cb λο ο=>(j,rfl,cg),cm⟩,λd7 s1 i a6 out t e W a8 bn bp bq br bt bu bv bw=>?_);show(s1,i,a6,out,t,rfl,a8,bn,e,W,bp,bq,br,bt,bu,bv,bw)
  rintro⟨s1,i,a6,out,t,e,W,rfl,a8,ad,b1,ce,cj,aq,k2,cd,cr⟩;let(c7,_):=a8.facts ae;let cf:=(aA.mp c7).1;let cv:=lO ah k2 bd ai.fours bi;let dc:=a8.slot ae O;let(bx,bz):=a8.back ae cc ad.lens.1 ad.lens.2 O;show(λam G=>am=[↑D.p,some (.int j),↑m,↑c.sh,↑t]/\xC A.Aa A.Ad A.Ac G D (s1.put true i (some c))/\G t>(.tup [.int (i:Int),.ref e,W])/\G e>(.lst (a6.map V.int))/\ED D.four G W out/\Ks D H G/\wG H G W,?_,λdg Z=>?_)
  .let(a9,U):=ad.me;let(ao,a5,ap,a3,az,c3,c4):=id ad.fr;let ar:=Paired.length az;rfl';show(_,a9,_,U,T.Ab,T.Ae,_,FF,D.fp,rfl,_,ao,_,ap,T.Af,T.Ag,_,AF,_,VC.of b1,.int i,CC (j:=0) rfl,D.ly,rfl,a5,i,rfl,a3,i,HF (by rw[ar];show cf),?_);show(ad.set (f:=true) (j:=i) (r:=some c) a3 cv (λq e=>by cases e;show bd),by rw[sC (HD b1 a3 nofun)];show b1,by rw[sC (λz9=>aq (by rw[z9];show SG (f:=true)))];show ce,cj.keep λa us F=>?_,XJ (f:=true) k2,cr.upd a3 (λο D=>nomatch D));let F||F:=F
   .rw[sC (HD F a3 nofun)]
   .rw[sC (λz9=>F.2 (by rw[z9];show SG (f:=true)))]
  rintro⟨rfl,aa,J,aj,ak,k3,b5⟩;show(λam G=>am=[↑D.p,some (.int j),↑m,↑c.sh,↑t]/\xC A.Aa A.Ad A.Ac G D (JF s1 i j c out)/\G t>(.tup [.int (i:Int),.ref e,W])/\G e>(.lst (a6.map V.int))/\ED D.four G W out/\Ks D H G/\wG H G W,?_,λdh d5=>?_)
  .rfl';let a4:∀{c:Addr} {us:!V},Z c>(.tup us)->c∉D.four:=λO z9=>by let(bj,U):=aa.fours _ z9;rw[O] at U;cases U
   let a0:∀{c:Addr} {o:HO},Z c>o->(bg:∀bm c0 fs,o≠.ins bm c0 fs:=by intro _ _ _ D;cases D)->c≠D.p:=λO bg z9=>by let(bc,ah):=aa.me;rw[z9,ah] at O;show bg _ _ _ (bA O).symm
   let(a9,U):=aa.me;let(ao,a5,ap,a3,az,c3,c4):=id aa.sl;let ar:a5.length=s1.sr.length:=Paired.length az;let db:=ad.lens;let bf:j < s1.sr.length:=by have:=(a8.facts ae).2.2.1;omega
   show(_,VC.of J,W,CC (j:=2) rfl,?_);cases out with
   |none=>
    obtain rfl:W=.non:=id ak;rw[iA rfl];let b4:(none:Option (Nat×Sh)).map (·.1)≠some j:=λD=>by cases D
    let ag:JF s1 i j c none=(((s1.put true i (some c)).put false j none).tie false j (some i)).tie true i (some j):=by unfold JF;rw[gA b4]
    rw[ag];let a2:=aa.set (f:=false) (j:=j) (r:=none) a3 rfl (λq e=>nomatch e);let k5:Ks D Z (upd Z D.ls (.lst (a5.set j .non))):=XJ (f:=false) (Ks.of vD);show(_,a9,_,U,T.Ab,T.Ah,_,uG,D.sq,rfl,_,ao,_,ap,T.Af,T.Ag,_,AF,D.ls,rfl,a5,a3,j,HF (by rw[ar];show bf),?_);let a2:xC A.Aa A.Ad A.Ac (upd Z D.ls (.lst (a5.set j .non))) D ((s1.put true i (some c)).put false j none):=a2;generalize upd Z D.ls _=G5 at *;let(ax,b9):=a2.me;let(ay,bj,ba,cz,d1,ac,d2):=id a2.sl;let ac:G5 D.ts>(.lst (s1.ts.map oV)):=ac;let b2:=k5 _ _ J (a0 J) (a4 J);show(_,VC.of b2,.int i,CC (j:=0) rfl,_,ax,_,b9,T.Ab,T.Ah,_,uG,D.sq,rfl,_,ay,_,ba,T.Af,T.Ai,_,RG,D.ts,rfl,_,ac,j,HF (by rw[fA];omega),?_);let a7:xC A.Aa A.Ad A.Ac (upd G5 D.ts (.lst ((s1.ts.map oV).set j (V.int (i:Int))))) D _:=a2.tie (f:=false) (j:=j) (o:=some i);let al:Ks D Z (upd G5 D.ts (.lst ((s1.ts.map oV).set j (V.int (i:Int))))):=xM (f:=false) k5;generalize upd G5 D.ts _=G6 at *;let(aw,b7):=a7.me;let(av,us,b8,cw,cx,ab,cy):=id a7.fr;let ab:G6 D.tw>(.lst (s1.tf.map oV)):=ab;let b3:=al _ _ J (a0 J) (a4 J);show(_,aw,_,b7,T.Ab,T.Ae,_,FF,D.fp,rfl,_,av,_,b8,T.Af,T.Ai,_,RG,_,VC.of b3,.int i,CC (j:=0) rfl,D.tw,rfl,_,i,rfl,ab,i,HF (by rw[fA];omega),?_);let au:xC A.Aa A.Ad A.Ac (upd G6 D.tw (.lst ((s1.tf.map oV).set i (V.int (j:Int))))) D _:=a7.tie (f:=true) (j:=i) (o:=some j);let a1:Ks D Z (upd G6 D.tw (.lst ((s1.tf.map oV).set i (V.int (j:Int))))):=xM (f:=true) al;show(au,a1 _ _ J (a0 J) (a4 J),a1 _ _ aj (a0 aj) aq,ak.keep (λa us F=>by
     let F||F:=F
     .rw[F];show a1 _ _ F (a0 F) (a4 F)
     .rw[F.1];show a1 _ _ F.1 (a0 F.1) F.2),k3.trans a1,b5.keep λc us O=>a1 _ _ O (a0 O) (a4 O))
   |some cp=>
    let(af,b6):=cp;let(o,l,rfl,c1,d9):=id ak;rw[gA nofun];show(_,VC.of J,.ref o,CC (j:=2) rfl,o,rfl,_,VC.of c1,.int af,CC (j:=0) rfl,rfl,?_);by_cases bb:af=j
    .subst bb;let ag:JF s1 i af c (some (af,b6))=s1.put true i (some c):=by unfold JF;show iA rfl
     rw[ag];show aJ (by simp) (aa,J,aj,ak,k3,b5)
    show pI (by simp;omega) ?_;let b4:(some (af,b6)).map (·.1)≠some j:=λD=>bb (bA D);let ag:JF s1 i j c (some (af,b6))=(((s1.put true i (some c)).put false j none).tie false j (some i)).tie true i (some j):=by unfold JF;rw[gA b4]
    rw[ag];let a2:=aa.set (f:=false) (j:=j) (r:=none) a3 rfl (λq e=>nomatch e);let k5:Ks D Z (upd Z D.ls (.lst (a5.set j .non))):=XJ (f:=false) (Ks.of vD);show(_,a9,_,U,T.Ab,T.Ah,_,uG,D.sq,rfl,_,ao,_,ap,T.Af,T.Ag,_,AF,D.ls,rfl,a5,a3,j,HF (by rw[ar];show bf),?_);let a2:xC A.Aa A.Ad A.Ac (upd Z D.ls (.lst (a5.set j .non))) D ((s1.put true i (some c)).put false j none):=a2;generalize upd Z D.ls _=G5 at *;let(ax,b9):=a2.me;let(ay,bj,ba,cz,d1,ac,d2):=id a2.sl;let ac:G5 D.ts>(.lst (s1.ts.map oV)):=ac;let b2:=k5 _ _ J (a0 J) (a4 J);show(_,VC.of b2,.int i,CC (j:=0) rfl,_,ax,_,b9,T.Ab,T.Ah,_,uG,D.sq,rfl,_,ay,_,ba,T.Af,T.Ai,_,RG,D.ts,rfl,_,ac,j,HF (by rw[fA];omega),?_);let a7:xC A.Aa A.Ad A.Ac (upd G5 D.ts (.lst ((s1.ts.map oV).set j (V.int (i:Int))))) D _:=a2.tie (f:=false) (j:=j) (o:=some i);let al:Ks D Z (upd G5 D.ts (.lst ((s1.ts.map oV).set j (V.int (i:Int))))):=xM (f:=false) k5;generalize upd G5 D.ts _=G6 at *;let(aw,b7):=a7.me;let(av,us,b8,cw,cx,ab,cy):=id a7.fr;let ab:G6 D.tw>(.lst (s1.tf.map oV)):=ab;let b3:=al _ _ J (a0 J) (a4 J);show(_,aw,_,b7,T.Ab,T.Ae,_,FF,D.fp,rfl,_,av,_,b8,T.Af,T.Ai,_,RG,_,VC.of b3,.int i,CC (j:=0) rfl,D.tw,rfl,_,i,rfl,ab,i,HF (by rw[fA];omega),?_);let au:xC A.Aa A.Ad A.Ac (upd G6 D.tw (.lst ((s1.tf.map oV).set i (V.int (j:Int))))) D _:=a7.tie (f:=true) (j:=i) (o:=some j);let a1:Ks D Z (upd G6 D.tw (.lst ((s1.tf.map oV).set i (V.int (j:Int))))):=xM (f:=true) al;show(au,a1 _ _ J (a0 J) (a4 J),a1 _ _ aj (a0 aj) aq,ak.keep (λa us F=>by
     let F||F:=F
     .rw[F];show a1 _ _ F (a0 F) (a4 F)
     .rw[F.1];show a1 _ _ F.1 (a0 F.1) F.2),k3.trans a1,b5.keep λc us O=>a1 _ _ O (a0 O) (a4 O))
  rintro⟨rfl,b0,bh,be,ck,cq,cu⟩;let(a9,U):=b0.me;let c5:(JF s1 i j c out).cb=s1.cb:=by unfold JF;split<;>rfl
  rfl';show(_,a9,_,U,T.Ab,T.Az,_,O5,_,rfl,_,a9,_,U,T.Ab,T.Az,by change 7 < 1000;decide,?_);rw[kL,c5];show q _ s1 i a6 out t e W a8 ?_ bx bz ?_ ?_ ?_ aq (CP cq) cd (cu.upd U (λο D=>nomatch D))
  .show b0.num U rfl rfl b0.hh rfl rfl
  .rw[sC (HD bh U nofun)];show bh
  .rw[sC (HD be U nofun)];show be
  .show ck.keep λa us F=>?_;let F||F:=F
   .rw[sC (HD F U nofun)]
   .rw[sC (HD F.1 U nofun)]
theorem IP:∀{rows:!(Option Sh)} {j:Nat},(iE (rows.set j none)).Sublist (iE rows)
 |[],_=>List.Sublist.refl _
 |x::l,0=>by
  cases x with
  |none=>show List.Sublist.refl _
  |some y=>show List.Sublist.cons _ (List.Sublist.refl _)
 |x::l,j+1=>by
  cases x with
  |none=>show IP (rows:=l) (j:=j)
  |some y=>show List.Sublist.cons₂ _ (IP (rows:=l) (j:=j))
theorem AM:∀{rows:!(Option Sh)} {i j:Nat} {r r':Sh},(iE rows).Nodup->rows[j]?>(some r)->rows[i]?>(some r')->i≠j->r'.hd≠r.hd
 |[],_,_,_,_,_,h,_,_=>by simp at h
 |x::l,0,0,_,_,_,_,_,h=>absurd rfl h
 |x::l,0,j+1,r,r',nd,h1,h2,_=>by
  simp at h1 h2;subst h2;let nd:(r'.hd::iE l).Nodup:=nd;show λe=>(JA.mp nd).1 (vG.mpr (r,dA h1,e.symm))
 |x::l,i+1,0,r,r',nd,h1,h2,_=>by
  simp at h1 h2;subst h1;let nd:(r.hd::iE l).Nodup:=nd;show λe=>(JA.mp nd).1 (vG.mpr (r',dA h2,e))
 |x::l,i+1,j+1,r,r',nd,h1,h2,hn=>by
  let nd:(iE l).Nodup:=by
   cases x with
   |none=>show nd
   |some y=>show (JA.mp (show (y.hd::iE l).Nodup from nd)).2
  show AM nd (by simpa using h1) (by simpa using h2) ⋯
def mO (C P S:Addr):Sp:=λvs H Q ο=>∃(z:Ss) (s:St) (t:Addr) (f:Bool) (j:Nat) (r:Option Sh),vs=[.ref z.p,.ref t]/\xC C P S H z s/\H t>(.tup [.str (EE f),.int j])/\(s.rw f)[j]?>r/\∀v,bD S H v r->Q v H
theorem tI (T:LD K mg A):SC P w K mg base A.Aa "lying_at" 1 ["self","spot"] [] (mO A.Aa A.Ad A.Ac):=by
 show T.Cn.have AX (λvs H Q E D=>?_) ?_
 .let(D,s,t,f,j,r,rfl,_):=D;rfl
 .intro f a9 a8 ae s H vs Q E ad D;let(D,s,t,f,j,r,rfl,F,J,W,q):=D;let(aa,a7):=F.me;show(_,(OC (mD (i:=2) AX.nd rfl (Or.inl rfl) (eP (CD bF (BC ND (lC 1) yC (λο ο=>rfl)) wE (rC _)) (YC (lC 0) rfl) (YC (lC 0) rfl)))
   (FC (sD (BC LC (YC (lC 2) rfl) (BC ND (lC 1) yC (λο ο=>rfl)) (λο ο=>rfl))))),?_)
  rfl';simp only[a7];rfl';let(Z,af,a1,a2,a3,ab):=id F.fr;let(a0,ag,a4,a5,a6,ac):=id F.sl;show(_,VC.of J,_,rfl,rfl,?_);cases f with
  |true=>
   rw[iA (show V.str (EE true)=V.str "frame" from rfl)];let(v,O,U):=nG a3 W;show(T.Ab,T.Ae,_,FF,D.fp,rfl,_,Z,_,a1,T.Af,T.Ag,_,AF,_,VC.of J,_,rfl,D.ly,rfl,_,j,rfl,uC.of a2,v,CC O,q v U)
  |false=>
   rw[gA ∅];let(v,O,U):=nG a6 W;show(T.Ab,T.Ah,_,uG,D.sq,rfl,_,a0,_,a4,T.Af,T.Ag,_,AF,_,VC.of J,_,rfl,D.ls,rfl,_,j,rfl,uC.of a5,v,CC O,q v U)
theorem JP {S hd:Addr} {H:Hp} {Z:!(!Key×V)} {o:HO} (J:H hd>(.dT Z)) {vs:!V} {rows:!(Option Sh)} (h:RD S H vs rows) (F:∀r,some r∈rows->r.hd≠hd):RD S (upd H hd o) vs rows:=by
 induction h with
 |nil=>show .nil
 |@cons x y _ _ h t ih=>
  show .cons ?_ (ih λr W=>F r (kA _ W));cases y with
  |none=>show h
  |some r=>
   let(e,(O,q),D,U):=h;show(e,⟨O,by rw[sC (HD q J nofun)];show q⟩,by rw[sC (HD D J nofun)];show D,by rw[sC (F r (wA ..))];show U)
theorem YJ {S:Addr} {H:Hp} {r:Sh} {a3:!(!Key×V)} {ks:!(!Key)} (O:H r.hd>(.dT a3)) {vs:!V} {rows:!(Option Sh)} (h:RD S H vs rows):∀{j:Nat},rows[j]?>(some r)->(∀(i:Nat) q,i≠j->rows[i]?>(some q)->q.hd≠r.hd)->RD S (upd H r.hd (.dT (sE ks))) vs (rows.set j (some {r with ks:=ks})):=by
 induction h with
 |nil=>intro j h _;simp at h
 |@cons x y xs ys h t ih=>
  intro j Z W;cases j with
  |zero=>
   simp at Z;subst Z;let(e,(U,F),J,a1):=h;show .cons (e,⟨U,by rw[sC (HD F O nofun)];show F⟩,by rw[sC (HD J O nofun)];show J,HC) (JP O t λq a0=>?_);let(i,a2):=IA.mp a0;show W (i+1) q ⋯ (by simpa using a2)
  |succ j=>
   show .cons ?_ (ih (by simpa using Z) λi q a2 a0=>W (i+1) q ⋯ (by simpa using a0));cases y with
   |none=>show h
   |some a4=>
    let(e,(U,F),J,a1):=h;show(e,⟨U,by rw[sC (HD F O nofun)];show F⟩,by rw[sC (HD J O nofun)];show J,by rw[sC (W 0 a4 ⋯ rfl)];show a1)
theorem SS:∀{rows:!(Option Sh)} {j:Nat} {r r':Sh},rows[j]?>(some r)->r'.hd=r.hd->iE (rows.set j (some r'))=iE rows
 |[],_,_,_,h,_=>by simp at h
 |x::l,0,r,r',h,e=>by
  simp at h;subst h;change r'.hd::iE l=r.hd::iE l;rw[e]
 |x::l,j+1,r,r',h,e=>by
  have:=SS (rows:=l) (j:=j) (by simpa using h) e;cases x with
  |none=>show this
  |some y=>show congrArg (y.hd::·) this
theorem tL {s:St} {f:Bool} {j:Nat} {r r':Sh} (h:Ap s) (q:(s.rw f)[j]?>(some r)) (e:r'.hd=r.hd):Ap (s.put f j (some r')):=by
 unfold Ap at *;cases f with
 |true=>change (iE (s.fr.set j (some r')++s.sr)).Nodup;rw[eF,SS (rows:=s.fr) q e,<-eF];show h
 |false=>change (iE (s.fr++s.sr.set j (some r'))).Nodup;rw[eF,SS (rows:=s.sr) q e,<-eF];show h
theorem fY {s:St} {f:Bool} {j:Nat} (h:Ap s):Ap (s.put f j none):=by
 unfold Ap at *;rw[eF] at h;cases f with
 |true=>change (iE (s.fr.set j none++s.sr)).Nodup;rw[eF];show h.sublist (List.Sublist.append_right IP _)
 |false=>change (iE (s.fr++s.sr.set j none)).Nodup;rw[eF];show h.sublist (List.Sublist.append_left IP _)
theorem xC.ks {C P S:Addr} {H:Hp} {D:Ss} {s:St} {f:Bool} {j:Nat} {r:Sh} {ks:!(!Key)} (h:xC C P S H D s) (Z:Ap s) (J:(s.rw f)[j]?>(some r)) (W:H r.hd>(.dT (sE r.ks))):xC C P S (upd H r.hd (.dT (sE ks))) D (s.put f j (some {r with ks:=ks})):=by
 let(a3,ac):=h.me;let(a4,ae,a6,a7,a8,U):=id h.fr;let(a5,af,a9,aa,ab,V):=id h.sl;let F:∀{c o},H c>o->(∀us,o≠.dT us)->upd H r.hd (.dT (sE ks)) c>o:=λ{c o} a0 ai=>by rw[sC (λD=>by rw[D,W] at a0;show ai _ (bA a0).symm)];show a0
 let a2:∀q,some q∈(s.put f j (some {r with ks:=ks})).fr\/some q∈(s.put f j (some {r with ks:=ks})).sr->q.bx∉D.four:=λq O=>(HS O).elim (λe=>by
  cases e;show h.bx r ?_;cases f with
  |true=>show .inl (dA J)
  |false=>show .inr (dA J)) (h.bx q)
 unfold Ap at Z;rw[eF] at Z;let(aj,ak,ad):=KA.mp Z;cases f with
 |true=>
  let J:s.fr[j]?>(some r):=J;let ag:s.tf.length=(s.fr.set j (some {r with ks:=ks})).length:=by rw[rA];show U.2
  let U:=F U.1 (λο D=>nomatch D);let len:=h.len;let hh:=h.hh;rw[<-rA (as:=s.fr) (i:=j) (a:=some {r with ks:=ks})] at len hh;show(⟨a3,F ac (λο D=>nomatch D)⟩,(a4,ae,F a6 (λο D=>nomatch D),F a7 (λο D=>nomatch D),YJ W a8 J (λi q a1 O=>AM aj J O a1),U,ag),(a5,af,F a9 (λο D=>nomatch D),F aa (λο D=>nomatch D),JP W ab (λq O e=>ad r.hd (vG.mpr (r,dA J,rfl)) q.hd (vG.mpr (q,O,rfl)) e.symm),F V.1 (λο D=>nomatch D),V.2),h.n4,a2,len,hh)
 |false=>
  let J:s.sr[j]?>(some r):=J;let ah:s.ts.length=(s.sr.set j (some {r with ks:=ks})).length:=by rw[rA];show V.2
  let V:=F V.1 (λο D=>nomatch D);let len:=h.len;rw[<-rA (as:=s.sr) (i:=j) (a:=some {r with ks:=ks})] at len;show(⟨a3,F ac (λο D=>nomatch D)⟩,(a4,ae,F a6 (λο D=>nomatch D),F a7 (λο D=>nomatch D),JP W a8 (λq O e=>ad q.hd (vG.mpr (q,O,rfl)) r.hd (vG.mpr (r,dA J,rfl)) e),F U.1 (λο D=>nomatch D),U.2),(a5,af,F a9 (λο D=>nomatch D),F aa (λο D=>nomatch D),YJ W ab J (λi q a1 O=>AM ak J O a1),V,ah),h.n4,a2,len,h.hh)
theorem nO {s:St} {f:Bool} {j:Nat} {a b:Option Sh}:(s.put f j a).put f j b=s.put f j b:=by
 cases f with
 |true=>change St.mk ((s.fr.set j a).set j b) s.sr s.h s.go s.ga s.cb s.tf s.ts=St.mk (s.fr.set j b) s.sr s.h s.go s.ga s.cb s.tf s.ts;rw[AB]
 |false=>change St.mk s.fr ((s.sr.set j a).set j b) s.h s.go s.ga s.cb s.tf s.ts=St.mk s.fr (s.sr.set j b) s.h s.go s.ga s.cb s.tf s.ts;rw[AB]
set_option tactic.hygienic true in
theorem Tw.put {s:St} {f:Bool} {j:Nat} {r r':Sh} (h:Tw s) (hr:(s.rw f)[j]?>(some r)):Tw (s.put f j (some r')):=by
 cases f with
 |true=>show(h.there,h.back,λa b hab=>by
  change ∃q,(s.fr.set j (some r'))[a]?>(some q);let(q,hq):=h.full a b hab;rw[oA]
  split
  .rename_i e;subst e;rw[iA (aA.mp hq).1];show⟨_,rfl⟩
  .show⟨q,hq⟩,h.bare)
 |false=>show(h.there,h.back,h.full,λa b hab=>by
  change (s.sr.set j (some r'))[b]?>none;let hb:=h.bare a b hab;rewrite[oA,gA (λe=>?_)];(try with_reducible rfl)
  .show hb
  .subst e;let hr:s.sr[j]?>(some r):=hr;rw[hb] at hr;cases hr)
theorem uL {s:St} {f:Bool} {j:Nat} {a:Option Sh}:((s.put f j a).rw f).length=(s.rw f).length:=by
 cases f with
 |true=>show rA
 |false=>show rA
def SD (ks:!(!Key)) (k:!Key):!(!Key):=ks.filter λx=>decide (x≠k)
theorem X5 {ks:!(!Key)} {k:!Key}:XF (sE ks) k=sE (SD ks k):=by
 unfold XF sE SD;rw[List.filter_map]
 rfl
theorem vL {ks:!(!Key)} {k:!Key} (h:k∈ks):tD (sE ks) k>(.bl true):=by
 induction ks with
 |nil=>cases h
 |cons x r j=>
  change tD ((x,V.bl true)::sE r) k=_;by_cases c:x=k
  .show tN c
  .rw[jM c];let e||e:=xA.mp h
   .show absurd e.symm c
   .show j e
def als (rows:!(Option Sh)):!Sh:=rows.filterMap id
theorem eG {a b:!(Option Sh)}:als (a++b)=als a++als b:=by unfold als;rw[List.filterMap_append]
theorem bJ {rows:!(Option Sh)} {r:Sh}:r∈als rows↔some r∈rows:=by
 unfold als;rw[List.mem_filterMap];show⟨λ⟨_,h,e⟩=>by rw[<-show _>r from e];show h,λh=>(_,h,rfl)⟩
theorem wL:∀{rows:!(Option Sh)} {j:Nat} {r:Sh},rows[j]?>none->(als (rows.set j (some r))).Perm (r::als rows):=by
 intro rows
 induction rows with
 |nil=>intro j r h;simp at h
 |cons x l q=>
  intro j r h;cases j with
  |zero=>
   simp at h;subst h;show mB _
  |succ j=>
   have:=q (j:=j) (r:=r) (by simpa using h);cases x with
   |none=>show this
   |some y=>show (List.Perm.cons y this).trans (List.Perm.swap ..)
theorem xL {rows:!(Option Sh)} {j:Nat} {q:Sh} (h:rows[j]?>(some q)):(als rows).Perm (q::als (rows.set j none)):=by
 let(D,F):=aA.mp h;have:=wL (rows:=rows.set j none) (j:=j) (r:=q) (by rw[yA D]);rw[AB,<-F,SB] at this;show this
theorem Y5 {D F:!(Option Sh)} {i j:Nat} {q c:Sh} (V:D[i]?>(some q)) (U:F[j]?>(some c)):(als (D.set i (some c)++F.set j (some q))).Perm (als (D++F)):=by
 rw[eG,eG];let J:=wL (rows:=D.set i none) (j:=i) (r:=c) (yA (aA.mp V).1);let O:=wL (rows:=F.set j none) (j:=j) (r:=q) (yA (aA.mp U).1);rw[AB] at J O;show (J.append O).trans (List.Perm.trans ?_ ((xL V).append (xL U)).symm);show (List.Perm.cons _ ZA).trans ((List.Perm.swap ..).trans (List.Perm.cons _ ZA.symm))
theorem Z5 {q D:!(Option Sh)} {i j:Nat} {c:Sh} (J:q[i]?>none) (F:D[j]?>(some c)):(als (q.set i (some c)++D.set j none)).Perm (als (q++D)):=by
 rw[eG,eG];show ((wL J).append_right _).trans (List.Perm.trans ?_ ((xL F).append_left _).symm);show ZA.symm
def GC (s:St):!Sh:=als (s.fr++s.sr)
def Bx (s:St):Prop:=((GC s).map Sh.bx).Nodup
theorem gF {s:St} {r:Sh}:r∈GC s↔some r∈s.fr\/some r∈s.sr:=by unfold GC;rw[bJ,UA]
theorem NF.als {s s1:St} {c:Option Nat} {ms:!Bool} {i:Nat} {V:!Int} {out:Option (Nat×Sh)} (h:NF s c ms s1 i V out) (O:∀j q,out>(j,q)->s.sr[j]?>none):(GC s1).Perm (GC s):=by
 let(J,rfl,_,rfl)||(J,q,j,a0,U,Z,W,rfl,rfl):=h
 .show mB _
 .let(D,F,_):=sI (s:={s with h:=(i+1) % s.fr.length}) (i:=i) (j:=j) (r:=q);unfold GC;rw[D,F,eG,eG];show ((mB _).append (wL (O j q rfl))).trans ?_;show ZA.trans ((xL U).symm.append_right _)
theorem NF.alsF {s s1:St} {ms:!Bool} {i:Nat} {U:!Int} {out:Option (Nat×Sh)} {r:Sh} (h:NF s none ms s1 i U out) (D:Tw s):(GC {s1 with fr:=s1.fr.set i (some r)}).Perm (r::GC s):=by
 let(F,_):=h.facts D;let J:=h.als λj q e=>by
  let(_,_,_,rfl)||(_,W,V,_,_,O,_,_,rfl):=h
  .cases e
  .cases e;let h||(h,_):=iO D O
   .show h
   .cases h
 show List.Perm.trans ?_ (List.Perm.cons r J);unfold GC;change (Pf.als (s1.fr.set i (some r)++s1.sr)).Perm _;rw[eG,eG];show (wL F).append_right _
theorem NF.alsB {s s1:St} {ms:!Bool} {i j:Nat} {a1:!Int} {out:Option (Nat×Sh)} {c:Sh} (h:NF s (some j) ms s1 i a1 out) (V:Tw s) (W:s.sr[j]?>(some c)):(GC (wD s1 i j c out)).Perm (GC s):=by
 let(U,D,_):=rL (s1:=s1) (i:=i) (j:=j) (c:=c) (out:=out);let(Z,_):=h.facts V;let(F,q,J,O,a0)||(F,J,O):=h.slot V W
 .rw[iA F] at D;unfold GC;rw[U,D,O,a0,AB];show Y5 J W
 .rw[gA F] at D;unfold GC;rw[U,D];show (Z5 Z J).trans (h.als O)
theorem oO {S:Addr} {H:Hp} {r:Sh} {us:!V} {bs:!Int} (D:H r.bx>(.lst us)) {vs:!V} {rows:!(Option Sh)} (h:RD S H vs rows):∀{j:Nat},rows[j]?>(some r)->(∀(i:Nat) q,i≠j->rows[i]?>(some q)->q.bx≠r.bx)->RD S (upd H r.bx (.lst (bs.map V.int))) vs (rows.set j (some {r with b:=bs})):=by
 induction h with
 |nil=>intro j h _;simp at h
 |@cons x y xs ys h t ih=>
  intro j J F;cases j with
  |zero=>
   simp at J;subst J;let(e,(a1,W),a2,Z):=h;show .cons (e,⟨a1,by rw[sC (HD W D nofun)];show W⟩,HC,by rw[sC (HD Z D nofun)];show Z) (QH D t λq O=>?_);let(i,a0):=IA.mp O;show F (i+1) q ⋯ (by simpa using a0)
  |succ j=>
   show .cons (lL D h λq e=>F 0 q ⋯ (by rw[e];rfl)) (ih (by simpa using J) λi q a0 O=>F (i+1) q ⋯ (by simpa using O))
theorem gY:∀{rows:!(Option Sh)} {i j:Nat} {q r:Sh},((als rows).map Sh.bx).Nodup->rows[j]?>(some r)->rows[i]?>(some q)->i≠j->q.bx≠r.bx
 |[],i,j,q,r,_,h,_,_=>by simp at h
 |x::l,i,j,q,r,nd,h1,h2,hij=>by
  let nl:((als l).map Sh.bx).Nodup:=by
   cases x with
   |none=>show nd
   |some y=>show (JA.mp nd).2
  cases j with
  |zero=>
   cases i with
   |zero=>show absurd rfl hij
   |succ i=>
    simp at h1 h2;subst h1;show λe=>(JA.mp nd).1 (jB.mpr (q,bJ.mpr (dA h2),e))
  |succ j=>
   cases i with
   |zero=>
    simp at h1 h2;subst h2;show λe=>(JA.mp nd).1 (jB.mpr (r,bJ.mpr (dA h1),e.symm))
   |succ i=>show gY nl (by simpa using h1) (by simpa using h2) ⋯
theorem xC.wr {C P S:Addr} {H:Hp} {J:Ss} {s:St} {j:Nat} {r:Sh} {bs:!Int} (h:xC C P S H J s) (Z:Bx s) (W:s.fr[j]?>(some r)) (a0:H r.bx>(.lst (r.b.map V.int))):xC C P S (upd H r.bx (.lst (bs.map V.int))) J (s.put true j (some {r with b:=bs})):=by
 let(O,af):=h.me;let(a4,ak,a6,a7,a8,a9,a2):=id h.fr;let(a5,al,aa,ab,ac,ad,ae):=id h.sl;let a3:=h.bx r (.inl (dA W));unfold Bx GC at Z;rw[eG,MA] at Z;let(ai,am,aj):=KA.mp Z;let a1:∀{c D O fs},H c>(.ins D O fs)->upd H r.bx (.lst (bs.map V.int)) c>(.ins D O fs):=λU=>by rw[sC (HD U a0 nofun)];show U
 let nf:∀{c o},H c>o->c∈J.four->upd H r.bx (.lst (bs.map V.int)) c>o:=λU ah=>by rw[sC (λe=>a3 (by rw[<-e];show ah))];show U
 let len:=h.len;let hh:=h.hh;rw[<-rA (as:=s.fr) (i:=j) (a:=some {r with b:=bs})] at len hh a2;show(⟨O,a1 af⟩,(a4,ak,a1 a6,nf a7 (SG (f:=true)),oO a0 a8 W (λi q ag F=>gY ai W F ag),nf a9 (RH (f:=true)),a2),(a5,al,a1 aa,nf ab (SG (f:=false)),QH a0 ac (λq F e=>aj r.bx (jB.mpr (r,bJ.mpr (dA W),rfl)) q.bx (jB.mpr (q,bJ.mpr F,rfl)) e.symm),nf ad (RH (f:=false)),ae),h.n4,λq F=>(HS F).elim (λe=>by cases e;show a3) (h.bx q),len,hh)
def SH (s:St) (i:Nat) (r:Sh) (k:Nat) (x:Int):St:=untie (s.put true i (some {r with b:=r.b.set k x})) i
def Kb (z:Ss) (b:Addr) (H H':Hp):Prop:=∀c o,H c>o->c≠z.p->c∉z.four->c≠b->H' c>o
def iY (C P S:Addr):Sp:=λvs H Q ο=>∃(z:Ss) (s:St) (i k:Nat) (r:Sh) (x:Int),vs=[.ref z.p,.int i,.int k,.int x]/\xC C P S H z s/\Tw s/\Bx s/\s.fr[i]?>(some r)/\k < r.b.length/\∀H',xC C P S H' z (SH s i r k x)->Kb z r.bx H H'->Q .non H'
theorem yL (T:LD K mg A):SC P w K mg base A.Aa "set_box" 2 ["self","frame","box","value"] [] (iY A.Aa A.Ad A.Ac):=by
 show T.C8.have Q4 (λvs H Q E D=>?_) ?_
 .let(D,s,i,k,r,x,rfl,_):=D;rfl
 .intro f aq ao ay s H vs Q E ak D;let(D,s,i,k,r,x,rfl,F,af,ae,O,ai,q):=D;let(ar,ac):=F.me;let(a5,b0,a8,a9,aa,au,av):=id F.fr;let(az,al,rfl,(a7,ab),W,aw):=nG aa O;let ag:=(aA.mp O).1;show(_,(OC (mF (lC 3) (lF (YC (BC LC (YC (YC (lC 0) rfl) rfl) (lC 1) (λο ο=>rfl)) rfl) (lC 2) oF))
   (FC (kF (pF (lC 0) T.Ab (NS T) (-ak) WC (nC (lC 1) wC))))),?_)
  rfl';simp only[ac];rfl';show(T.Ab,T.Ae,_,FF,D.fp,rfl,_,a5,_,a8,T.Af,T.Ag,_,AF,D.ly,rfl,_,uC.of a9,_,CC al,r.sh,rfl,_,a7,_,ab,T.An,T.At,_,uM,r.bx,rfl,_,W,k,HF (by rw[fA];show ai),?_);let U:=F.wr (bs:=r.b.set k x) ae O W;rw[<-List.map_set];let k1:Kb D r.bx H (upd H r.bx (.lst ((r.b.set k x).map V.int))):=λc o J ο ο aj=>by rw[sC aj];show J
  generalize upd H r.bx _=G at *;let(a6,ad):=U.me;let ax:=F.lens;show(a6,_,ad,DE ∅,D,_,i,rfl,U,by change i < (s.fr.set i _).length;rw[rA];show ag,λj ah=>?_,λa2 a3 a4 ap=>q a2 a3 λc o J Z a0 am=>a4 c o (k1 c o J Z a0 am) Z a0);have:=(aA.mp (af.there i j ah)).1;change j < s.sr.length;omega
theorem BM {s:St} {i j:Nat} (h:s.tf[i]?>(some j)):untie s i=(s.tie true i none).tie false j none:=by unfold untie;rw[h]
set_option tactic.hygienic true in
theorem ZJ {s:St} {i:Nat} (h:∀j,s.tf[i]?≠some (some j)):untie s i=s:=by
 unfold untie
 split
 .rename_i j e;show absurd e (h j)
 .rfl
theorem Tw.untie {s:St} {i:Nat} (h:Tw s):Tw (Pf.untie s i):=by
 cases e:s.tf[i]? with
 |none=>rw[ZJ (λj D=>by rw[e] at D;cases D)];show h
 |some o=>
  cases o with
  |none=>rw[ZJ (λj D=>by rw[e] at D;cases D)];show h
  |some j=>
   let O:=h.there i j e;rw[BM e];show(λa b q=>?_,λa b q=>?_,λa b q=>?_,λa b q=>?_)
   .let q:(s.tf.set i none)[a]?>(some b):=q;change (s.ts.set j none)[b]?>(some a);let(z1,z2):=KG.mp q;have:=h.there a b z1;show KG.mpr ⟨this,λJ=>z2 ?_⟩;rw[J,O] at this;show (bA (bA this)).symm
   .let q:(s.ts.set j none)[b]?>(some a):=q;change (s.tf.set i none)[a]?>(some b);let(z1,z2):=KG.mp q;have:=h.back a b z1;show KG.mpr ⟨this,λF=>z2 ?_⟩;rw[F,e] at this;show (bA (bA this)).symm
   .show h.full a b (KG.mp (show (s.tf.set i none)[a]?>(some b) from q)).1
   .show h.bare a b (KG.mp (show (s.ts.set j none)[b]?>(some a) from q)).1
theorem Ap.untie {s:St} {i:Nat} (h:Ap s):Ap (Pf.untie s i):=by unfold Ap;rw[UF.1,UF.2.1];show h
theorem Bx.untie {s:St} {i:Nat} (h:Bx s):Bx (Pf.untie s i):=by unfold Bx GC;rw[UF.1,UF.2.1];show h
theorem US {rows:!(Option Sh)} {i:Nat} {r r':Sh} (h:rows[i]?>(some r)):(als (rows.set i (some r'))).Perm (r'::als (rows.set i none)):=by
 have:=wL (rows:=rows.set i none) (j:=i) (r:=r') (yA (aA.mp h).1);rw[AB] at this;show this
theorem VS {s:St} {f:Bool} {i:Nat} {r r':Sh} (h:Bx s) (j:(s.rw f)[i]?>(some r)) (e:r'.bx=r.bx):Bx (s.put f i (some r')):=by
 let go:∀{rows:!(Option Sh)},rows[i]?>(some r)->((als (rows.set i (some r'))).map Sh.bx).Perm ((als rows).map Sh.bx):=λj=>by
  show ((US j).map Sh.bx).trans (List.Perm.trans ?_ ((xL j).map Sh.bx).symm);rw[AA,AA,e]
 unfold Bx GC at *;rw[eG,MA] at h;cases f with
 |true=>
  change ((als (s.fr.set i (some r')++s.sr)).map Sh.bx).Nodup;rw[eG,MA];show ((go j).append_right _).nodup_iff.mpr h
 |false=>
  change ((als (s.fr++s.sr.set i (some r'))).map Sh.bx).Nodup;rw[eG,MA];show ((go j).append_left _).nodup_iff.mpr h
def UC (s:St) (f:Bool) (j:Nat):St:=if f=true then untie (s.put true j none) j else s.put false j none
def Kg (z:Ss) (d:Addr) (H H':Hp):Prop:=∀c o,H c>o->c≠z.p->c∉z.four->c≠d->H' c>o
theorem pO {s:St} {f:Bool} {j:Nat} (h:Ap s):Ap (UC s f j):=by
 cases f with
 |true=>show (fY (f:=true) h).untie
 |false=>show fY (f:=false) h
set_option tactic.hygienic true in
theorem Tw.empt {s:St} {f:Bool} {j:Nat} {r:Sh} (h:Tw s) (hr:(s.rw f)[j]?>(some r)):Tw (UC s f j):=by
 cases f with
 |true=>
  change Tw (Pf.untie (s.put true j none) j);let go:∀t u:!(Option Nat),(∀a b:Nat,t[a]?>(some b)->s.tf[a]?>(some b)/\a≠j)->(∀a b:Nat,u[b]?>(some a)->s.ts[b]?>(some a))->(∀a b:Nat,t[a]?>(some b)->u[b]?>(some a))->(∀a b:Nat,u[b]?>(some a)->t[a]?>(some b))->Tw {s with fr:=s.fr.set j none,tf:=t,ts:=u}:=λt u h1 h2 h3 h4=>(h3,h4,λa b hab=>by
   let(x1,x2):=h1 a b hab;change ∃q,(s.fr.set j none)[a]?>(some q);rw[oA,gA (Ne.symm x2)];show h.full a b x1,λa b hab=>h.bare a b (h2 a b hab))
  cases e:s.tf[j]? with
  |none=>
   rw[ZJ (λk z=>by let z:s.tf[j]?>(some k):=z;rw[e] at z;cases z)];show go s.tf s.ts (λa b x=>⟨x,λz=>by rw[z,e] at x;cases x⟩) (λο ο x=>x) h.there h.back
  |some o=>
   cases o with
   |none=>
    rw[ZJ (λk z=>by let z:s.tf[j]?>(some k):=z;rw[e] at z;cases z)];show go s.tf s.ts (λa b x=>⟨x,λz=>by rw[z,e] at x;cases x⟩) (λο ο x=>x) h.there h.back
   |some k=>
    rw[BM (show (s.put true j none).tf[j]?>(some k) from e)];let hk:=h.there j k e;show go (s.tf.set j none) (s.ts.set k none) (λa b x=>KG.mp x) (λa b x=>(KG.mp x).1) (λa b x=>?_) (λa b x=>?_)
    .let(x1,x2):=KG.mp x;let y:=h.there a b x1;show KG.mpr ⟨y,λz=>x2 ?_⟩;rw[z,hk] at y;show (bA (bA y)).symm
    .let(x1,x2):=KG.mp x;let y:=h.back a b x1;show KG.mpr ⟨y,λz=>x2 ?_⟩;rw[z,e] at y;show (bA (bA y)).symm
 |false=>
  show(h.there,h.back,h.full,λa b hab=>?_);let hb:=h.bare a b hab;change (s.sr.set j none)[b]?>none;rw[oA]
  split
  .rename_i e;subst e;rw[iA (aA.mp hb).1]
  .show hb
def qO (C P S:Addr):Sp:=λvs H Q ο=>∃(z:Ss) (s:St) (t:Addr) (f:Bool) (j:Nat),vs=[.ref z.p,.ref t]/\xC C P S H z s/\H t>(.tup [.str (EE f),.int j])/\j < (s.rw f).length/\(∀k,s.tf[j]?>(some k)->k < s.sr.length)/\∀H',xC C P S H' z (UC s f j)->Ks z H H'->Q .non H'
theorem rO (T:LD K mg A):SC P w K mg base A.Aa "make_empty" 2 ["self","spot"] [] (qO A.Aa A.Ad A.Ac):=by
 show T.Bq.have X4 (λvs H Q E D=>?_) ?_
 .let(D,s,t,f,j,rfl,_):=D;rfl
 .intro f am aj ar s H vs Q E ad D;let(D,s,t,f,j,rfl,J,O,F,af,q):=D;let(ao,ab):=J.me;show(_,(FC (JD (CD bF (BC ND (lC 1) yC (λο ο=>rfl)) wE (rC _)) (OC (mF BD (lF (YC (YC (lC 0) rfl) rfl) (BC ND (lC 1) yC (λο ο=>rfl)) oF))
   (FC (kF (pF (lC 0) T.Ab (NS T) (-ad) WC (nC (BC ND (lC 1) yC (λο ο=>rfl)) wC))))) (FC (mF BD (lF (YC (YC (lC 0) rfl) rfl) (BC ND (lC 1) yC (λο ο=>rfl)) oF))))),?_)
  rfl';simp only[ab];rfl';let(a4,a0,a7,W,a8,ap):=id J.fr;let(a5,ai,a9,Z,aa,aq):=id J.sl;let ag:=Paired.length a8;let ah:=Paired.length aa;show(_,VC.of O,_,rfl,rfl,?_);cases f with
  |true=>
   rw[iA (show V.str (EE true)=V.str "frame" from rfl)];let F:j < s.fr.length:=F;let U:=J.set (f:=true) (j:=j) (r:=none) W rfl (λq e=>nomatch e);let(a6,ac):=U.me;let ae:upd H D.ly (.lst (a0.set j .non)) t>(.tup [.str (EE true),.int (j:Int)]):=by rw[sC (HD O W nofun)];show O
   show(T.Ab,T.Ae,_,FF,D.fp,rfl,_,a4,_,a7,T.Af,T.Ag,_,AF,_,VC.of O,_,rfl,D.ly,rfl,a0,j,rfl,W,j,HF (by rw[ag];show F),a6,_,ac,DE ∅,_,VC.of ae,_,rfl,D,_,j,rfl,U,by change j < (s.fr.set j none).length;rw[rA];show F,af,λak a2 a3 al=>q _ a2 ((XJ (f:=true) (Ks.of vD)).trans a3))
  |false=>
   rw[gA ∅];let F:j < s.sr.length:=F;let U:=J.set (f:=false) (j:=j) (r:=none) Z rfl (λq e=>nomatch e);show(T.Ab,T.Ah,_,uG,D.sq,rfl,_,a5,_,a9,T.Af,T.Ag,_,AF,_,VC.of O,_,rfl,D.ls,rfl,ai,j,rfl,Z,j,HF (by rw[ah];show F),q _ U (XJ (f:=false) (Ks.of vD)))
def MH (s:St) (f:Bool) (j:Nat) (r:Sh) (k:!Key):St:=if SD r.ks k=[] then UC s f j else s.put f j (some {r with ks:=SD r.ks k})
def aK (C P S:Addr):Sp:=λvs H Q ο=>∃(z:Ss) (s:St) (t h:Addr) (f:Bool) (j:Nat) (r:Sh) (k:!Key),vs=[.ref z.p,.ref t,.ref h]/\xC C P S H z s/\Ap s/\Tw s/\H t>(.tup [.str (EE f),.int j])/\(s.rw f)[j]?>(some r)/\H h>(.tup (k.map kV))/\k∈r.ks/\
 ∀H',xC C P S H' z (MH s f j r k)->Ap (MH s f j r k)->Tw (MH s f j r k)->Kg z r.hd H H'->(∀c,H' c=none->H c=none)->Q .non H'
theorem WS (T:LD K mg A):SC P w K mg base A.Aa "let_go" 3 ["self","spot","holder"] [] (aK A.Aa A.Ad A.Ac):=by
 let ag:=@tI P w K mg base A T;show T.Dq.have xX (λvs H Q E D=>?_) ?_
 .let(D,s,t,h,f,j,r,k,rfl,_):=D;rfl
 .intro f av au b0 s H vs Q E a3 D;let(D,s,t,h,f,j,r,k,rfl,W,a1,a2,ab,J,hh,am,q):=D;let(aw,V):=W.me;show(_,(OC (mD (i:=3) xX.nd rfl (Or.inl rfl) (pF (lC 0) T.Ab ag (-a3) WC (nC (lC 1) wC)))
   (OC (kF (Q1 (xN a3) (YC (lC 3) rfl) (lC 2) (rfl,rfl,rfl,rfl)))
   (FC (JD (CD bF (MD N1 rfl T.Aj PySem.boot_len (nC (YC (lC 3) rfl) wC)) yC (rC _)) (FC (kF (pF (lC 0) T.Ab (rO T) (-a3) WC (nC (lC 1) wC)))) KD)))),?_)
  unfold mO jI;rfl';simp only[V];rfl';show(DE ∅,D,rfl,s,W,f,j,ab,_,J,λv aq=>?_);let(rfl,(a5,a7),ax,U):=aq;let O:=W.ks (ks:=SD r.ks k) a1 J U;let ae:∀{c o},H c>o->(∀us,o≠.dT us)->upd H r.hd (.dT (sE (SD r.ks k))) c>o:=λ{c o} F ap=>by rw[sC (λD=>by rw[D,U] at F;show ap _ (bA F).symm)];show F
  let k2:Kg D r.hd H (upd H r.hd (.dT (sE (SD r.ks k)))):=λc o F ο ο ao=>by rw[sC ao];show F
  let a0:∀c,upd H r.hd (.dT (sE (SD r.ks k))) c=none->H c=none:=λc F=>by
   by_cases e:c=r.hd
   .rw[e,HC] at F;cases F
   .rw[sC e] at F;show F
  let az:=W.lens;let ad:∀x,s.tf[j]?>(some x)->x < s.sr.length:=λx a4=>by have:=(aA.mp (a2.there j x a4)).1;omega
  show(r.sh,rfl,_,a5,_,a7,T.An,T.Au,_,VN,r.hd,rfl,.inr ⟨_,.inl U⟩,_,U,k,hh,.bl true,vL am,?_);rw[X5];show(r.sh,rfl,_,a5,_,ae a7 (λο D=>nomatch D),T.An,T.Au,_,VN,r.hd,rfl,_,HC,?_);let a9:=tL (r':={r with ks:=SD r.ks k}) a1 J rfl;let ac:=ae ab (λο D=>nomatch D);let al:=(aA.mp J).1;unfold MH at q;by_cases c:SD r.ks k=[]
  .rw[iA c] at q;rw[c] at O ac a9 k2 a0 ⊢;rw[iA (show (((sE []).length:Nat):Int)=0 from rfl)];let(ah,aj):=O.me;show(ah,_,aj,DE ∅,D,_,t,f,j,rfl,O,ac,by rw[uL];show al,(by cases f with
    |true=>show ad
    |false=>
     intro x a4;have:=ad x a4;change x < (s.sr.set j _).length;rw[rA];show this),λZ aa k3=>?_)
   let a6:UC (s.put f j (some {r with ks:=SD r.ks k})) f j=UC s f j:=by
    cases f with
    |true=>change untie ((s.put true j _).put true j none) j=untie (s.put true j none) j;rw[nO]
    |false=>change (s.put false j _).put false j none=s.put false j none;show nO
   rw[c] at a6;let ak:xC A.Aa A.Ad A.Ac Z D (UC s f j):=by rw[<-a6];show aa
   let ar:Kg D r.hd H Z:=λc o F V a8 ai=>k3 c o (k2 c o F V a8 ai) V a8;show q Z ak (pO a1) (a2.empt J) ar λc F=>?_;show a0 c (k3.was O aa F)
  .rw[gA c] at q;let ay:(sE (SD r.ks k)).length=(SD r.ks k).length:=by unfold sE;rw[fA]
   have:=List.length_pos_iff.mpr c;rw[gA ⋯];show q _ O a9 (a2.put J) k2 a0
theorem XS {j:!(!Key×V)} {k:!Key} {v:V} (h:tD j k=none):lE j k v=j++[(k,v)]:=by
 unfold lE;rw[IQ,h]
 rfl
theorem zL {ks:!(!Key)} {k:!Key} (h:k∉ks):tD (sE ks) k=none:=by
 induction ks with
 |nil=>rfl
 |cons x r j=>
  change tD ((x,V.bl true)::sE r) k=_;rw[jM (λe=>h (by rw[<-e];show wA ..))];show j λq=>h (kA _ q)
def jY (C P S:Addr):Sp:=λvs H Q ο=>∃(z:Ss) (s:St) (t h:Addr) (f:Bool) (j:Nat) (r:Sh) (k:!Key),vs=[.ref z.p,.ref t,.ref h]/\xC C P S H z s/\Ap s/\H t>(.tup [.str (EE f),.int j])/\(s.rw f)[j]?>(some r)/\H h>(.tup (k.map kV))/\k∉r.ks/\r.ks.length<=1000/\
 ∀H',xC C P S H' z (s.put f j (some {r with ks:=r.ks++[k]}))->Ap (s.put f j (some {r with ks:=r.ks++[k]}))->Kg z r.hd H H'->(∀c,H' c=none->H c=none)->Q .non H'
theorem kY (T:LD K mg A):SC P w K mg base A.Aa "hold" 2 ["self","spot","holder"] [] (jY A.Aa A.Ad A.Ac):=by
 let Z:=@tI P w K mg base A T;show T.Eb.have wX (λvs H Q E F=>?_) ?_
 .let(F,s,t,h,f,j,r,k,rfl,_):=F;rfl
 .intro f a9 a8 ad s H vs Q E W F;let(F,s,t,h,f,j,r,k,rfl,J,V,a6,O,hh,a4,ac,q):=F;let(aa,a2):=J.me;show(_,(OC (mD (i:=3) wX.nd rfl (Or.inl rfl) (pF (lC 0) T.Ab Z (-W) WC (nC (lC 1) wC)))
   (FC (SZ (xN W) (YC (lC 3) rfl) (lC 2) NG rfl))),?_)
  unfold mO zJ;rfl';simp only[a2];rfl';show(DE ∅,F,rfl,s,J,f,j,a6,_,O,λv a7=>?_);let(rfl,(a0,a1),ab,U):=a7;let a3:=J.ks (ks:=r.ks++[k]) V O U;let hz:=PySem.sizeLine_eq;let ep:lE (sE r.ks) k (.bl true)=sE (r.ks++[k]):=by
   rw[XS (zL a4)];unfold sE;rw[MA]
   rfl
  show(r.sh,rfl,_,a0,_,a1,T.An,T.Au,_,VN,r.hd,rfl,_,.inr (sE r.ks,k,h,U,rfl,hh,by unfold sE;rw[fA];omega,rfl),?_);rw[ep];show q _ a3 (tL (r':={r with ks:=r.ks++[k]}) V O rfl) (λc o D ο ο a5=>by rw[sC a5];show D) λc D=>?_;by_cases e:c=r.hd
  .rw[e,HC] at D;cases D
  .rw[sC e] at D;show D
def lY (C P S:Addr):Sp:=λvs H Q ο=>∃(z:Ss) (s:St) (t:Addr) (f:Bool) (j:Nat) (r:Option Sh),vs=[.ref z.p,.ref t]/\xC C P S H z s/\H t>(.tup [.str (EE f),.int j])/\(s.rw f)[j]?>r/\(r=none->Q .non H)/\∀q,r>q->∀l,H l=none->Q (.ref l) (upd H l (.lst (q.b.map V.int)))
theorem sO (T:LD K mg A):SC P w K mg base A.Aa "sheet_at" 2 ["self","spot"] [] (lY A.Aa A.Ad A.Ac):=by
 let J:=@tI P w K mg base A T;show T.Cm.have zX (λvs H Q E q=>?_) ?_
 .let(q,s,t,f,j,r,rfl,_):=q;rfl
 .intro f a5 a4 a8 s H vs Q E Z q;let(q,s,t,f,j,r,rfl,D,a1,a0,a2,a3):=q;let(a6,W):=D.me;show(_,(OC (mD (i:=2) zX.nd rfl (Or.inl rfl) (pF (lC 0) T.Ab J (-Z) WC (nC (lC 1) wC)))
   (FC (sD (eP (CD yG (lC 2) BD (rC _)) BD (aH tJ rfl T.A7 bB (nC (YC (lC 2) rfl) wC)))))),?_)
  unfold mO;rfl';simp only[W];rfl';show(DE ∅,q,rfl,s,D,f,j,a1,_,a0,λv F=>?_);cases r with
  |none=>
   obtain rfl:v=.non:=F;rw[iA rfl];show a2 rfl
  |some r=>
   let(rfl,(O,U),V,a7):=F;rw[gA nofun];show(r.sh,rfl,_,O,_,U,T.An,T.At,_,uM,r.bx,rfl,_,.inl (uC.of V),a3 r rfl)
def tO (C P S:Addr):Sp:=λvs H Q ο=>∃(z:Ss) (s:St) (t:Addr) (f:Bool) (j:Nat) (r:Option Sh),vs=[.ref z.p,.ref t]/\xC C P S H z s/\H t>(.tup [.str (EE f),.int j])/\(s.rw f)[j]?>r/\(∀q,r>q->jH q)/\∀l H',H l=none->pC H H'->vF H' l (match r with|none=>[]|some q=>zD q.ks)->Q (.ref l) H'
theorem YS (T:LD K mg A):SC P w K mg base A.Aa "holders_of" 2 ["self","spot"] [] (tO A.Aa A.Ad A.Ac):=by
 let V:=@tI P w K mg base A T;let W:=@BP P w K mg base A T;show T.Bo.have yX (λvs H Q E D=>?_) ?_
 .let(D,s,t,f,j,r,rfl,_):=D;rfl
 .intro f a6 a5 aa s H vs Q E U D;let(D,s,t,f,j,r,rfl,J,a4,a3,a2,q):=D;let(a7,a1):=J.me;show(_,(OC (mD (i:=2) yX.nd rfl (Or.inl rfl) (pF (lC 0) T.Ab V (-U) WC (nC (lC 1) wC)))
   (FC (sD (eP (CD yG (lC 2) BD (rC _)) (cF wC) (rG (lC 2) T.An W (-U) WC))))),?_)
  unfold mO zP;rfl';simp only[a1];rfl';show(DE ∅,D,rfl,s,J,f,j,a4,_,a3,λv F=>?_);cases r with
  |none=>
   obtain rfl:v=.non:=F;rw[iA rfl];show λl O=>q l _ O (gE vD O) ([],HC,.nil)
  |some r=>
   let(rfl,(Z,a0),a8,a9):=id F;rw[gA nofun];show(r.sh,rfl,Z,_,a0,SJ ∅,r,F,a2 r rfl,q)
abbrev Tr:=!Int×!(!Key)×Option Nat
def KP:Option Sh->Option Nat->Option Tr
 |none,_=>none
 |some r,o=>some (r.b,(zD r.ks,o))
def pE (fr:!(Option Sh)) (i:Nat):!Int:=match fr[i]? with
 |some (some r)=>r.b
 |_=>[]
def uO (fr:!(Option Sh)):Option Sh->Option Nat->Option Tr
 |some r,_=>some (r.b,(zD r.ks,none))
 |none,none=>none
 |none,some i=>some (pE fr i,([],some i))
def tF (s:St):!(Option Tr):=List.zipWith KP s.fr s.tf
def tS (s:St):!(Option Tr):=List.zipWith (uO s.fr) s.sr s.ts
def LG (H:Hp) (xs:!Addr) (v:V):Option Tr->Prop
 |none=>v=.non
 |some (b,(ks,o))=>∃t bl hl,v=.ref t/\H t>(.tup [.ref bl,.ref hl,oV o])/\H bl>(.lst (b.map V.int))/\vF H hl ks/\bl∉xs/\hl∉xs
theorem LG.keep {H H':Hp} {xs:!Addr} (hx:∀x∈xs,∃us,H x>(.lst us)) (k:∀c o,H c>o->c∉xs->(∀kvs,o≠.dT kvs)->H' c>o) {v:V}:∀{r:Option Tr},LG H xs v r->LG H' xs v r
 |none,h=>h
 |some (_,(_,_)),⟨t,bl,hl,e,h1,h2,⟨us,h3,h4⟩,n1,n2⟩=>by
  let nt:∀{c us},H c>(.tup us)->c∉xs:=λ{c us} hc z=>by
   let(vs,e):=hx c z;rw[hc] at e;cases e
  show(t,bl,hl,e,k _ _ h1 (nt h1) (λο z=>nomatch z),k _ _ h2 n1 (λο z=>nomatch z),(us,k _ _ h3 n2 (λο z=>nomatch z),Paired.mapP h4 λ_ _ ⟨a,e,q⟩=>(a,e,k _ _ q (nt q) (λο z=>nomatch z))),n1,n2)
def ZS (k:!Key):Dv:=.seq true (k.map λx=>.leaf (kV x))
def CM (ks:!(!Key)):Dv:=.seq false (ks.map ZS)
def AL (bs:!Int):Dv:=.seq false (bs.map λx=>.leaf (.int x))
def DM:Option Nat->Dv
 |none=>.leaf .non
 |some j=>.leaf (.int (j:Int))
theorem vO {H:Hp} {o:Option Nat}:yD H (DM o) (oV o):=by
 cases o with
 |none=>unfold DM yD;show⟨rfl,rfl⟩
 |some j=>unfold DM yD;show⟨rfl,rfl⟩
def TH:Option Tr->Dv
 |none=>.leaf .non
 |some (b,(ks,o))=>.seq true [AL b,CM ks,DM o]
theorem mY {H:Hp}:∀{bs:!Int},NC H (bs.map λx=>.leaf (.int x)) (bs.map V.int)
 |[]=>by unfold NC;rfl
 |b::bs=>by
  rw[AA,AA];unfold NC;show(_,_,rfl,by unfold yD;show⟨rfl,rfl⟩,mY)
theorem oY {H:Hp}:∀{k:!Key},NC H (k.map λx=>.leaf (kV x)) (k.map kV)
 |[]=>by unfold NC;rfl
 |b::bs=>by
  rw[AA,AA];unfold NC;show(_,_,rfl,by unfold yD;show⟨rfl,by cases b<;>rfl⟩,oY)
theorem pY {H:Hp} {l:Addr} {ks:!(!Key)} (h:vF H l ks) (O:ks.length<=64) (q:∀k∈ks,k.length<=64):yD H (CM ks) (.ref l):=by
 let(us,j,D):=h;unfold CM yD;show(l,us,rfl,j,by rw[fA];omega,?_);clear j O
 induction D with
 |nil=>rw[cC];unfold NC;rfl
 |@cons v k _ _ a t ih=>
  rw[AA];unfold NC;let(b,rfl,F):=a;show(_,_,rfl,?_,ih λk J=>q k (kA _ J));unfold ZS yD;show(b,_,rfl,F,by rw[fA];have:=q k (wA ..);omega,oY)
theorem aT {H:Hp} {l:Addr} {bs:!Int} (h:H l>(.lst (bs.map V.int))) (j:bs.length<=64):yD H (AL bs) (.ref l):=by
 unfold AL yD;show(l,_,rfl,h,by rw[fA];omega,mY)
def c6 (r:Sh):Prop:=r.b.length<=64/\(zD r.ks).length<=64/\∀k∈zD r.ks,k.length<=64
def bG (r:Tr):Prop:=r.1.length<=64/\r.2.1.length<=64/\∀k∈r.2.1,k.length<=64
theorem LG.lks {H:Hp} {xs:!Addr} {v:V}:∀{r:Option Tr},LG H xs v r->(∀s,r>s->bG s)->yD H (TH r) v
 |none,h,_=>by unfold TH yD;show⟨h,rfl⟩
 |some (b,(ks,o)),⟨t,bl,hl,e,h1,h2,h3,n1,n2⟩,hb=>by
  let(b1,b2,b3):=hb _ rfl;unfold TH yD;show(t,_,e,h1,by change (3:Nat) < 16777216;decide,?_);unfold NC;show(_,_,rfl,aT h2 b1,?_);unfold NC;show(_,_,rfl,pY h3 b2 b3,?_);unfold NC;show(_,_,rfl,vO,by unfold NC;rfl)
theorem bT {H:Hp} {xs:!Addr} {vs:!V} {rows:!(Option Tr)} (h:Paired (LG H xs) vs rows) (ok:∀r,some r∈rows->bG r):NC H (rows.map TH) vs:=by
 induction h with
 |nil=>rw[cC];unfold NC;rfl
 |cons r t q=>
  rw[AA];unfold NC;show(_,_,rfl,r.lks (λs e=>ok s (by rw[e];show wA ..)),q λr j=>ok r (kA _ j))
def bK (rows:!(Option Sh)):Prop:=∀r,some r∈rows->jH r/\c6 r
theorem cT {α β γ:Type} {f:α->β->γ}:∀{as:!α} {bs:!β} {c:γ},c∈List.zipWith f as bs->∃a b,a∈as/\b∈bs/\f a b=c
 |[],_,c,h=>by simp at h
 |_::_,[],c,h=>by simp at h
 |a::as,b::bs,c,h=>by
  rw[List.zipWith_cons_cons] at h;let e||h:=xA.mp h
  .show(a,b,wA .., wA .., e.symm)
  .let(x,y,h1,h2,h3):=cT h;show(x,y,kA _ h1,kA _ h2,h3)
theorem cK {s:St} (ok:bK s.fr) {r:Tr} (h:some r∈tF s):bG r:=by
 unfold tF at h;let(a,b,D,_,j):=cT h;cases a with
 |none=>cases j
 |some q=>cases j;show (ok q D).2
set_option tactic.hygienic true in
theorem eK {s:St} (ok0:bK s.fr) (ok:bK s.sr) {r:Tr} (h:some r∈tS s):bG r:=by
 unfold tS at h;let(a,b,h1,_,h3):=cT h;cases a with
 |some q=>cases h3;show (ok q h1).2
 |none=>
  cases b with
  |none=>cases h3
  |some i=>
   cases h3;show(?_,LB _,λk hk=>by cases hk);change (pE s.fr i).length<=64;unfold pE
   split
   .rename_i q e;show (ok0 q (dA e)).2.1
   .show LB _
def wO (C P S:Addr):Sp:=λvs H Q ο=>∃(z:Ss) (s:St),vs=[.ref z.p]/\xC C P S H z s/\bK s.fr/\∀H' l,pC H H'->H l=none->yD H' (.seq false ((tF s).map TH)) (.ref l)->Q (.ref l) H'
theorem eT (T:LD K mg A):SC P w K mg base A.Aa "told_frames" 2 ["self"] [] (wO A.Aa A.Ad A.Ac):=by
 let ba:=@BP P w K mg base A T;show T.Bi.have vP (λvs H Q E j=>?_) ?_
 .let(j,s,rfl,_):=j;rfl
 .intro f bz bw c4 s H vs Q E ag j;let(j,s,rfl,a6,ok,q):=j;let(ap,ay):=a6.me;let(aq,us,au,av,aw,be,c0):=id a6.fr;let b1:(tF s).length=s.fr.length:=by unfold tF;rw[bC];omega
  let br:=Paired.length aw;show(_,(OC (mD (i:=1) vP.nd rfl (Or.inl rfl) (cF wC))
   (OC (DG RA rfl (WQ rfl T.Bd (nC (YC (YC (lC 0) rfl) rfl) wC)) (aN (n:=2) rfl (zI (jE (i:=2) vP.nd rfl (Or.inl rfl)) (zI (jE (i:=3) vP.nd rfl (Or.inl rfl)) YM))) (FC (JD (CD yG (lC 3) BD (rC _)) (FC (kF (lH PySem.F.plainAttrs_list PySem.F.slot_list_append PySem.F.type_list_append BH (lC 1) (nC BD wC)))) (FC (kF (lH PySem.F.plainAttrs_list PySem.F.slot_list_append PySem.F.type_list_append BH (lC 1) (nC (aF (nC (aH tJ rfl T.A7 bB (nC (YC (lC 3) rfl) wC)) (nC (rG (lC 3) T.An ba (-ag) WC) (nC (BC LC (YC (YC (lC 0) rfl) rfl) (lC 2) (λο ο=>rfl)) wC)))) wC)))))))
   (FC (sD (lC 1))))),?_)
  unfold zP;rfl';intro D a7;let a5:=gE (o:=.lst []) (vD (H:=H)) a7;show(_,ap,_,a5 _ _ ay,T.Ab,T.Ae,_,FF,j.fp,rfl,_,aq,_,a5 _ _ au,T.Af,T.Ag,_,AF,j.ly,rfl,⟨_,uC.of (a5 _ _ av)⟩,XQ (xs:=us) (λi ac J=>∃F al am,ac=[↑j.p,↑D,al,am]/\pC H J/\J D>(.lst F)/\Paired (LG J [D]) F ((tF s).take i)) ([],_,_,rfl,a5,HC,.nil) (λi ac J _ ao=>by let(_,_,_,ao):=ao;show uC.of (ao.2.1 _ _ av)) (λi x ak ac J bl=>?_) (λac bx=>?_))
  .rintro⟨F,al,am,rfl,s1,a8,a0⟩ bp;let(y,ah,ai):=QG aw bl;let ad:=gE (o:=.tup [V.int i,x]) (vD (H:=J)) bp;let bq:upd J ak (.tup [V.int i,x]) ak>(.tup [V.int i,x]):=HC;let c2:i < s.fr.length:=(aA.mp ah).1;obtain⟨o,b3⟩:∃o,s.tf[i]?>o:=⟨_,cA ⋯⟩
   let b4:(tF s).take (i+1)=(tF s).take i++[KP y o]:=by rw[uB,show (tF s)[i]?>(KP y o) by unfold tF;rw[List.getElem?_zipWith,ah,b3]];rfl
   rfl';generalize upd J ak (.tup [V.int i,x])=H2 at *;show(_,VC.of bq,rfl,_,_,rfl,_,_,rfl,rfl,?_);let bu:=Paired.length a0;rw[dB] at bu;let c3:=a6.len.1;let a9:=s1.trans ad;let O:=ad _ _ a8;let b0:∀{a4 U:Hp} {b9:!V},pC H2 a4->U=upd a4 D (.lst b9)->Paired (LG U [D]) F ((tF s).take i):=λ{a4 U b9} a1 e=>Paired.mapP a0 λο ο q=>q.keep (xs:=[D]) (λx bt=>⟨F,by rw[nA.mp bt];show a8⟩) (λc o bi bm ο=>by rw[e,sC (λj=>bm (by simp[j]))];show a1 _ _ (ad _ _ bi));cases y with
   |none=>
    obtain rfl:x=.non:=ai;rw[iA rfl];show(.inl (rfl,_,uC.of O),F,O,⋯,qF a9 a7,_,rfl,?_);rw[b4];show UG (b0 vD rfl) rfl
   |some r=>
    let(rfl,(ar,ax),bf,c1):=id ai;rw[gA nofun];show(.inl (rfl,_,uC.of O),r.sh,rfl,_,ar,_,a9 _ _ ax,T.An,T.At,_,uM,r.bx,rfl,_,.inl (uC.of (a9 _ _ bf)),λZ az=>?_);let ae:=gE (o:=.lst (r.b.map V.int)) (vD (H:=H2)) az;let bg:upd H2 Z (.lst (r.b.map V.int)) Z>(.lst (r.b.map V.int)):=HC;generalize upd H2 Z (.lst (r.b.map V.int))=a4 at *;let a1:=a9.trans ae;show(r.sh,rfl,ar,_,a1 _ _ ax,SJ ∅,r,bD.same a1 ai,(ok r (dA ah)).1,λaf U bj aj bb=>?_);let ab:=a1.trans aj;let bh:=aj _ _ bg;show(_,ap,_,ab _ _ ay,T.Ab,T.Ae,_,FF,j.fp,rfl,_,aq,_,ab _ _ au,T.Af,T.Ai,_,RG,j.tw,rfl,_,_,rfl,uC.of (ab _ _ be),oV o,CC (by rw[FA,b3];rfl),λb7 b2=>?_);let W:=gE (o:=.tup [V.ref Z,V.ref af,oV o]) (vD (H:=U)) b2;let aa:pC H2 U:=ae.trans aj;let bn:=W _ _ (aa _ _ O);show(F,bn,⋯,qF (ab.trans W) a7,_,rfl,?_);rw[b4];let b5:Z≠D:=(mE O az).symm;let b6:af≠D:=(mE (ae _ _ O) bj).symm;let bv:b7≠D:=(mE (aa _ _ O) b2).symm;show UG (b0 (aa.trans W) rfl) (b7,Z,af,rfl,by rw[sC bv,HC],by rw[sC b5];show W _ _ bh,(let ⟨us9,a2,a3⟩:=bb;(us9,by rw[sC b6];show W _ _ a2,Paired.mapP a3 λ_ _ ⟨bc,bd,b8⟩=>(bc,bd,by rw[sC (HD b8 (aa _ _ O) nofun)];show W _ _ b8))),by simpa using b5,by simpa using b6)
  rintro⟨F,al,am,rfl,s1,a8,a0⟩;rfl';rw[br,<-b1,eB] at a0;show q _ D s1 a7 ?_;unfold yD;show(D,F,rfl,a8,by rw[fA,b1];have:=a6.len.1;omega,bT a0 λr ag=>cK ok ag)
def fK (C P S:Addr):Sp:=λvs H Q ο=>∃(z:Ss) (s:St) (j:Nat) (r:Option Sh) (o:Option Nat),vs=[.ref z.p,.int j]/\xC C P S H z s/\Tw s/\s.sr[j]?>r/\s.ts[j]?>o/\(∀q,r>q->jH q)/\∀v H',pC H H'->(∀xs:!Addr,(∀x∈xs,H x≠none)->LG H' xs v (uO s.fr r o))->Q v H'
theorem fT (T:LD K mg A):SC P w K mg base A.Aa "told_slot" 3 ["self","slot"] [] (fK A.Aa A.Ad A.Ac):=by
 let ah:=@BP P w K mg base A T;let ai:=@sO P w K mg base A T;show T.B2.have UR (λvs H Q E D=>?_) ?_
 .let(D,s,j,r,o,rfl,_):=D;rfl
 .intro f b4 b3 b8 s H vs Q E ad D;let(D,s,j,r,o,rfl,a1,a9,af,ab,ar,q):=D;let(aj,a0):=a1.me;let(a5,us,a7,al,am,ao,b5):=id a1.sl;let(v,ay,a2):=nG am af;let b7:=(aA.mp af).1;show(_,(OC (mD (i:=2) UR.nd rfl (Or.inl rfl) (BC LC (YC (YC (lC 0) rfl) rfl) (lC 1) (λο ο=>rfl)))
   (AD (mD (i:=3) UR.nd rfl (Or.inl rfl) (BC LC (YC (YC (lC 0) rfl) rfl) (lC 1) (λο ο=>rfl)))
   (OC (JD (CD wH (lC 2) BD (rC _)) (FC (sD (aF (nC (aH tJ rfl T.A7 bB (nC (YC (lC 2) rfl) wC)) (nC (rG (lC 2) T.An ah (-ad) WC) (nC BD wC)))))) KD)
   (OC (JD (CD wH (lC 3) BD (rC _)) (FC (sD (aF (nC (pF (lC 0) T.Ab ai (-ad) WC (nC (aF (nC wE (nC (lC 3) wC))) wC)) (nC (cF wC) (nC (lC 3) wC)))))) KD)
   (FC (sD BD)))))),?_)
  rfl';simp only[a0];rfl';show(T.Ab,T.Ah,_,uG,D.sq,rfl,_,a5,_,a7,T.Af,T.Ag,_,AF,D.ls,rfl,us,uC.of al,v,CC ay,?_);show(λb2 W=>b2=[↑D.p,some (.int (j:Int)),some v,some (oV o)]/\W=H,?_,λb9 W=>?_)
  .rfl';simp only[a0];rfl';show(T.Ab,T.Ah,_,uG,D.sq,rfl,_,a5,_,a7,T.Af,T.Ai,_,RG,D.ts,rfl,_,uC.of ao,oV o,CC (by rw[FA,ab];rfl),rfl)
  rintro⟨rfl,rfl⟩;cases r with
  |none=>
   obtain rfl:v=.non:=a2;cases o with
   |none=>
    unfold oV;rfl';show iD (iD (q _ _ vD λο ο=>rfl))
   |some i=>
    unfold oV lY;let(r,ae):=a9.full i j (a9.back i j ab);let ak:pE s.fr i=r.b:=by unfold pE;rw[ae]
    rfl';show iD (pI (by rw[zA nofun];rfl) (aj,_,a0,DE ∅,λp au=>?_));let(s1,k1):=jD (o:=.tup [V.str "frame",V.int (i:Int)]) au;show(D,rfl,s,a1.same s1,true,i,rfl,some r,ae,(λe=>by cases e),λb1 e l J ag ac b0 av=>?_);obtain rfl:r=b1:=bA e;let(U,k2):=jD (o:=.lst (r.b.map V.int)) J;let(F,k3):=jD (o:=.lst []) ac;let(a3,az):=jD (o:=.tup [V.ref l,V.ref ag,V.int (i:Int)]) av;show q _ _ (((s1.trans U).trans F).trans a3) λxs O=>?_;change LG _ xs _ (some (pE s.fr i,([],some i)));rw[ak];show(b0,l,ag,rfl,az,a3 _ _ (F _ _ k2),([],a3 _ _ k3,.nil),λD=>O _ D (xD s1 J),λD=>O _ D (xD (s1.trans U) ac))
  |some r=>
   let(rfl,(a6,a8),ap,b6):=id a2;unfold zP;rfl';show nE (_,a6,_,a8,T.An,T.At,_,uM,r.bx,rfl,_,.inl (uC.of ap),λZ aa=>?_);let(s1,k1):=jD (o:=.lst (r.b.map V.int)) aa;generalize upd W Z _=H1 at *;show(a6,_,s1 _ _ a8,SJ ∅,r,bD.same s1 a2,ar r rfl,λJ a4 aq U ax t aw=>?_);let F:pC a4 (upd a4 t (.tup [V.ref Z,V.ref J,V.non])):=gE vD aw;show q _ _ (s1.trans (U.trans F)) λxs O=>(t,Z,J,rfl,HC,F _ _ (U _ _ k1),ax.same F,λD=>O _ D aa,λD=>O _ D (xD s1 aq))
def BL (C P S:Addr):Sp:=λvs H Q ο=>∃(z:Ss) (s:St),vs=[.ref z.p]/\xC C P S H z s/\Tw s/\bK s.fr/\bK s.sr/\∀H' l,pC H H'->H l=none->yD H' (.seq false ((tS s).map TH)) (.ref l)->Q (.ref l) H'
theorem xO (T:LD K mg A):SC P w K mg base A.Aa "told_slots" 4 ["self"] [] (BL A.Aa A.Ad A.Ac):=by
 let ac:=@fT P w K mg base A T;show T.Bp.have U4 (λvs H Q E j=>?_) ?_
 .let(j,s,rfl,_):=j;rfl
 .intro f aw au b1 s H vs Q E a2 j;let(j,s,rfl,Z,ai,aq,ok,q):=j;let(ad,a7):=Z.me;let(ae,us,af,ag,ah,ax,ay):=id Z.sl;let a9:(tS s).length=s.sr.length:=by unfold tS;rw[bC];omega
  show(_,(FC (sD (FH rfl (iG rfl T.Aq (nC (MD BE rfl T.Aj PySem.boot_len (nC (YC (YC (lC 0) rfl) rfl) wC)) wC)) (x:="slot") (fs:=["self"]) (ix:=[0]) rfl rfl (λο ο ο ο ο ο=>(jE (i:=0) (show (["slot","self"]:!Str).Nodup by decide+kernel) rfl (Or.inl rfl))) (λο ο ο ο ο ο=>FG) (λο ο ο ο ο ο=>(pF (lC 1) T.Ab ac (-a2) CN (nC (lC 0) wC)))))),?_);unfold fK;rfl';simp only[a7];rfl';let am:=Paired.length ah;let b0:=Z.len.2;let hz:=PySem.sizeLine_eq;show(T.Ab,T.Ah,_,uG,j.sq,rfl,_,ae,_,af,T.Af,T.Ag,_,AF,_,.inl (_,uC.of ag,rfl),⋯,⋯,λD a0=>?_);show PH (λi F a5 W=>∃v,a5=[v,↑j.p]/\pC H W/\W D>(.lst F)/\Paired (LG W [D]) F ((tS s).take i)) (_,rfl,gE vD a0,HC,.nil) (λi F a5 W az=>?_) (λF a5 av=>?_)
  .rintro⟨v,rfl,s1,J,O⟩;let aj:i < s.sr.length:=⋯;let a3:s.sr[i]?>s.sr[i]:=cA aj;obtain⟨o,aa⟩:∃o,s.ts[i]?>o:=⟨_,cA ⋯⟩
   let al:(tS s).take (i+1)=(tS s).take i++[uO s.fr s.sr[i] o]:=by rw[uB,show (tS s)[i]?>(uO s.fr s.sr[i] o) by unfold tS;rw[List.getElem?_zipWith,a3,aa]];rfl
   let ap:=Paired.length O;rw[dB] at ap;generalize s.sr[i]=r at *;rfl';show(ad,_,s1 _ _ a7,DE ∅,j,rfl,s,i,⋯,Z.same s1,ai,r,a3,o,aa,(λq e=>(ok q (by rw[<-e];show dA a3)).1),λv a6 a4 ao=>?_);let a8:=a4 _ _ J;show(a8,⋯,qF (s1.trans a4) a0,?_);rw[al];let ar:=ao [D] (λx U=>by rw[nA.mp U,J];show λj=>nomatch j);let ab:∀{u:V} {r:Option Tr},LG a6 [D] u r->LG (upd a6 D (.lst (F++[v]))) [D] u r:=λh=>h.keep (xs:=[D]) (λx U=>⟨F,by rw[nA.mp U];show a8⟩) (λc o a1 ak ο=>by rw[sC (λj=>ak (by simp[j]))];show a1);show UG (Paired.mapP O λο ο h=>ab (h.keep (xs:=[D]) (λx U=>⟨F,by rw[nA.mp U];show J⟩) (λc o a1 ο ο=>a4 _ _ a1))) (ab ar)
  .rintro⟨v,rfl,s1,J,O⟩;rw[am,gB,<-a9,eB] at O;show q _ D s1 a0 ?_;unfold yD;show(D,F,rfl,J,by rw[fA,a9];omega,bT O λr a2=>eK aq ok a2)
def uI (k:!Key):Bool:=decide (k.head?>(.inr (Str.ofString "bank")))
def KF (ks:!(!Key)):Bool:=ks.any uI
theorem d6 {CX:CXT} {P:Program} {w:World} {K:W.Frag} {mg:Str->Option Value} {base:Heap} {N:!Str} {D:Str} {F:Scope} {f:Addr} {j:Value} {A:Around} {q:!Env} {s:Shared} {H:Hp} {E:XK}:(fE CX P w K mg base N D F f j A q s H E).H₀=H:=rfl
def CL (C:Addr):Sp:=λvs H Q ο=>∃(v:V) (r:Sh),vs=[v]/\bD C H v (some r)/\(∀k∈r.ks,SE k)/\r.ks.length<=1000/\∀H',pC H H'->Q (.bl (KF r.ks)) H'
theorem yO (T:LD K mg A):SC P w K mg base A.Ac "is_banked" 1 ["self"] [] (CL A.Ac):=by
 show T.Cl.have K4 (λvs H Q E D=>?_) ?_
 .let(v,r,rfl,_):=D;rfl
 .intro f ap ao aw s H vs Q E av D;let(v,r,rfl,(rfl,(af,ah),aq,a3),am,au,q):=D;let hz:=PySem.sizeLine_eq;show(_,(FC (Q2 (sD (MD (Z0 rfl) rfl T.Gz ∅ (nC (FH rfl (V2 (YC (lC 0) rfl)) (x:="holder") (fs:=[]) (ix:=[]) rfl rfl (λο ο ο ο ο ο=>(jE (i:=0) (show (["holder"]:!Str).Nodup by decide+kernel) rfl (Or.inl rfl))) (λο ο ο ο ο ο=>FG) (λο ο ο ο ο ο=>(xH bF (BC (KW (K:=K) rfl) (lC 0) yC (λο ο=>rfl)) wE (rC _)))) wC))))),?_);show(r.hd,?_,?_)
  .intro o u;rw[d6,a3];show λD=>nomatch D
  unfold gH oI;rfl';show(_,af,_,ah,T.An,T.Au,_,VN,r.hd,rfl,sE r.ks,a3,λo O Z=>?_);let ae:∀b u,H b>u->b≠r.hd->upd H r.hd (.frz o (.dT (sE r.ks))) b>u:=λb u h U=>by rw[sC U];show h
  let ad:upd H r.hd (.frz o (.dT (sE r.ks))) r.hd>(.frz o (.dT (sE r.ks))):=HC;generalize upd H r.hd (.frz o (.dT (sE r.ks)))=H2 at *;let a4:O≠r.hd:=λD=>by rw[D,ad] at Z;cases Z
  let ac:H O=none:=by
   cases e:H O with
   |none=>rfl
   |some u=>rw[ae O u e a4] at Z;cases Z
  show T3 (λi W a2 F=>∃a8,a2=[a8]/\(∀b u,H b>u->b≠r.hd->F b>u)/\F r.hd>(.frz o (.dT (sE r.ks)))/\W=((r.ks.take i).map uI).map V.bl/\F O>(.lst W)) (_,rfl,λb u h U=>?_,?_,rfl,HC) (λi W a2 F _ a9=>by let(_,a9):=a9;show a9.2.2.1) (λi k x b W a2 F J U=>?_) (λW a2 F=>?_)
  .rw[sC (mE h ac)];show ae b u h U
  .rw[sC (Ne.symm a4)];show ad
  .rintro⟨a8,rfl,a6,a5,rfl,a0⟩;obtain⟨a7,rfl⟩:r.ks[i]?>k/\x=V.bl true:=by
    unfold sE at J;rw[FA] at J;cases e:r.ks[i]? with
    |none=>rw[e] at J;cases J
    |some y=>rw[e] at J;cases J;show⟨rfl,rfl⟩
   let(s1,aa,ab,rfl):=am k (dA a7);let ar:=(aA.mp a7).1;let al:r.ks.take (i+1)=r.ks.take i++[[.inr s1,.inl aa,.inl ab]]:=by rw[uB,a7];rfl
   rfl';show(_,VC.of U,.str s1,CC (j:=0) rfl,rfl,a0,by rw[fA,fA,dB];omega,λb u h ai=>?_,?_,?_)
   .rw[sC (mE h ac)];show a6 b u h ai
   .rw[sC (Ne.symm a4)];show a5
   .let ag:decide (V.str s1=V.str "bank")=uI [.inr s1,.inl aa,.inl ab]:=by
     unfold uI;by_cases e:s1=Str.ofString "bank"
     .subst e;show (BA rfl).trans (BA rfl).symm
     .show (zA (λD=>e (V.str.inj D))).trans (zA (λD=>e (Sum.inr.inj (bA D)))).symm
    rw[ag,al,MA,MA]
    rfl
  .rintro⟨a8,rfl,a6,a5,rfl,a0⟩;let ak:(sE r.ks).length=r.ks.length:=by unfold sE;rw[fA]
   rw[ak,eB] at a0;show(r.ks.map uI,uC.of a0,?_);let aj:pC H (upd F r.hd (.dT (sE r.ks))):=λc u h=>by
    by_cases a1:c=r.hd
    .rw[a1,HC,<-a3,<-h,a1]
    .rw[sC a1];show a6 _ _ h a1
   rw[P2 a5];have:=q _ aj;unfold KF at this;rw[List.any_map];show this
def iF (H:Hp) (v:V) (p:Bool×Nat):Prop:=∃a,v=.ref a/\H a>(.tup [.str (EE p.1),.int (p.2:Int)])
theorem iF.same {H j:Hp} {v:V} {p:Bool×Nat} (h:iF H v p) (s:pC H j):iF j v p:=let ⟨a,e,q⟩:=h;(a,e,s _ _ q)
def spA (s:St):!(Bool×Nat):=(List.range s.fr.length).map (true,·)++(List.range s.sr.length).map (false,·)
theorem LP {j q:Type} {R:j->q->Prop} {as cs:!j} {bs ds:!q} (h:Paired R as bs) (D:Paired R cs ds):Paired R (as++cs) (bs++ds):=by
 induction h with
 |nil=>show D
 |cons r t F=>show .cons r F
def DL (C P S:Addr):Sp:=λvs H Q ο=>∃(z:Ss) (s:St),vs=[.ref z.p]/\xC C P S H z s/\∀H' l us,pC H H'->H l=none->H' l>(.lst us)->Paired (iF H') us (spA s)->Q (.ref l) H'
theorem zO (T:LD K mg A):SC P w K mg base A.Aa "all_spots" 1 ["self"] [] (DL A.Aa A.Ad A.Ac):=by
 show T.B1.have BX (λvs H Q E j=>?_) ?_
 .let(j,s,rfl,_):=j;rfl
 .intro f b1 az ba s H vs Q E b9 j;let(j,s,rfl,a4,q):=j;let(ah,ad):=a4.me;let(ai,bc,ak,al,am,b2,b3):=id a4.fr;let(aj,bd,ao,ap,aq,b4,b5):=id a4.sl;let av:=Paired.length am;let aw:=Paired.length aq;let b6:=a4.len;let hz:=PySem.sizeLine_eq;let ae:∀(b:Bool) (i:Nat),(List.range (i+1)).map (λx=>(b,x))=(List.range i).map (λx=>(b,x))++[(b,i)]:=λb i=>by rw[List.range_succ,MA];rfl
  show(_,(OC (oM (i:=1) BX.nd rfl rfl rfl (iG rfl T.Aq (nC (MD BE rfl T.Aj PySem.boot_len (nC (YC (YC (lC 0) rfl) rfl) wC)) wC)) (x:="frame") (fs:=[]) (ix:=[]) rfl rfl (λο ο ο ο ο ο=>(jE (i:=0) (show (["frame"]:!Str).Nodup by decide+kernel) rfl (Or.inl rfl))) (λο ο ο ο ο ο=>FG) (λο ο ο ο ο ο=>(aF (nC wE (nC (lC 0) wC)))))
   (FC (sD (KC uJ (lC 1) (FH rfl (iG rfl T.Aq (nC (MD BE rfl T.Aj PySem.boot_len (nC (YC (YC (lC 0) rfl) rfl) wC)) wC)) (x:="slot") (fs:=[]) (ix:=[]) rfl rfl (λο ο ο ο ο ο=>(jE (i:=0) (show (["slot"]:!Str).Nodup by decide+kernel) rfl (Or.inl rfl))) (λο ο ο ο ο ο=>FG) (λο ο ο ο ο ο=>(aF (nC wE (nC (lC 0) wC))))))))),?_)
  rfl';simp only[ad];rfl';show(T.Ab,T.Ae,_,FF,j.fp,rfl,_,ai,_,ak,T.Af,T.Ag,_,AF,_,.inl (_,uC.of al,rfl),⋯,⋯,λab a3=>?_);show PH (λi J W D=>∃v,W=[v]/\pC H D/\D ab>(.lst J)/\Paired (iF D) J ((List.range i).map (true,·))) (_,rfl,gE vD a3,HC,.nil) (λi J W D au=>?_) (λJ W af=>?_)
  .rintro⟨v,rfl,s1,Z,F⟩;let aa:=Paired.length F;rw[fA,WA] at aa;rfl';intro p a0;rw[pB];let(U,a7):=jD (o:=.tup [V.str "frame",V.int (i:Int)]) a0;let O:=U _ _ Z;generalize upd D p _=H2 at *;let a2:∀{c o},H2 c>o->(∀us,o≠.lst us)->upd H2 ab (.lst (J++[V.ref p])) c>o:=λa1 a9=>by rw[sC (HD a1 O (λe=>a9 _ e))];show a1
   show(O,⋯,qF (s1.trans U) a3,?_);rw[ae];show UG (Paired.mapP F λ_ _ ⟨a,e,q⟩=>(a,e,a2 (U _ _ q) (λο j=>nomatch j))) (p,rfl,a2 a7 (λο j=>nomatch j))
  rintro⟨v,rfl,s1,Z,F⟩;rw[av,gB] at F;show(_,ah,_,s1 _ _ ad,T.Ab,T.Ah,_,uG,j.sq,rfl,_,aj,_,s1 _ _ ao,T.Af,T.Ag,_,AF,_,.inl (_,uC.of (s1 _ _ ap),rfl),⋯,⋯,λac O=>?_);let bb:=s1;let b7:=Z;let b8:=F;let ax:=Paired.length F;rw[fA,WA] at ax;show PH (λi zs W D=>∃v,W=[v]/\pC af D/\D ac>(.lst zs)/\Paired (iF D) zs ((List.range i).map (false,·))) (_,rfl,gE vD O,HC,.nil) (λi J W D au=>?_) (λzs W b0=>?_)
  .rintro⟨v,rfl,s1,Z,F⟩;let a3:=O;let aa:=Paired.length F;rw[fA,WA] at aa;rfl';intro p a0;rw[pB];let(U,a7):=jD (o:=.tup [V.str "slot",V.int (i:Int)]) a0;let O:=U _ _ Z;generalize upd D p _=H2 at *;let a2:∀{c o},H2 c>o->(∀us,o≠.lst us)->upd H2 ac (.lst (J++[V.ref p])) c>o:=λa1 a9=>by rw[sC (HD a1 O (λe=>a9 _ e))];show a1
   show(O,⋯,qF (s1.trans U) a3,?_);rw[ae];show UG (Paired.mapP F λ_ _ ⟨a,e,q⟩=>(a,e,a2 (U _ _ q) (λο j=>nomatch j))) (p,rfl,a2 a7 (λο j=>nomatch j))
  .rintro⟨v,rfl,a5,ar,a8⟩;rw[aw,gB] at a8;let ay:=Paired.length a8;rw[fA,WA] at ay;show(J,a5 _ _ Z,zs,ar,⋯,λp a0=>?_);let(a6,ag):=jD (o:=.lst (J++zs)) a0;show q _ p _ ((s1.trans a5).trans a6) (xD (s1.trans a5) a0) ag (LP (Paired.mapP F λο ο h=>h.same (a5.trans a6)) (Paired.mapP a8 λο ο h=>h.same a6))
def WD (q:Sh) (ks:!(!Key)):Sh:={q with ks:=q.ks++ks}
def WE (s:St) (f:Bool) (j:Nat) (f':Bool) (j':Nat) (r q:Sh):St:=UC (s.put f' j' (some (WD q (zD r.ks)))) f j
theorem EL {s:St} {f f':Bool} {j j':Nat} {o:Option Sh} (h:¬(f=f'/\j=j')):((s.put f' j' o).rw f)[j]?=(s.rw f)[j]?:=by
 cases f with
 |true=>
  cases f' with
  |true=>change (s.fr.set j' o)[j]?=s.fr[j]?;rw[oA,gA (λe=>h ⟨rfl,e.symm⟩)]
  |false=>rfl
 |false=>
  cases f' with
  |true=>rfl
  |false=>change (s.sr.set j' o)[j]?=s.sr[j]?;rw[oA,gA (λe=>h ⟨rfl,e.symm⟩)]
theorem AO {s:St} {f:Bool} {j:Nat} {o:Option Sh} (h:j < (s.rw f).length):((s.put f j o).rw f)[j]?>o:=by
 cases f with
 |true=>show yA h
 |false=>show yA h
theorem g6 {s:St} {f:Bool} {j:Nat} {o:Option Sh} (h:(s.rw f)[j]?>o):s.put f j o=s:=by
 cases f with
 |true=>
  let(D,q):=aA.mp (show s.fr[j]?>o from h);change {s with fr:=s.fr.set j o}=s;rw[<-q,SB]
 |false=>
  let(D,q):=aA.mp (show s.sr[j]?>o from h);change {s with sr:=s.sr.set j o}=s;rw[<-q,SB]
def i6 (C P S:Addr):Sp:=λvs H Q ο=>∃(z:Ss) (s:St) (t t':Addr) (f f':Bool) (j j':Nat) (r q:Sh),vs=[.ref z.p,.ref t,.ref t']/\xC C P S H z s/\Ap s/\Tw s/\H t>(.tup [.str (EE f),.int (j:Int)])/\H t'>(.tup [.str (EE f'),.int (j':Int)])/\(s.rw f)[j]?>(some r)/\(s.rw f')[j']?>(some q)/\¬(f=f'/\j=j')/\jH r/\(∀k∈r.ks,k∉q.ks)/\q.ks.length+r.ks.length<=1000/\
 ∀H',xC C P S H' z (WE s f j f' j' r q)->Ap (WE s f j f' j' r q)->Tw (WE s f j f' j' r q)->Kg z q.hd H H'->(∀c,H' c=none->H c=none)->Q .non H'
set_option tactic.hygienic true in
theorem FL (T:LD K mg A):SC P w K mg base A.Aa "hand_over" 3 ["self","spot","other"] [] (i6 A.Aa A.Ad A.Ac):=by
 show T.B3.have DX (λvs H Q E z=>?_) ?_
 .let(z,s,t,t',f,f',j,j',r,q,rfl,_):=z;rfl
 .intro f9 cdv A' outer s H vs Q E hr z;let(z,s,t,t',f,f',j,j',r,q,rfl,hS,hA,hT,ht,ht',hrj,hqj,hne,hok,hdj,hln,qq):=z;let(dx,h1):=hS.me;let hjl:=(aA.mp hrj).1;let hjl':=(aA.mp hqj).1;show(_,(OC (DG RA rfl (vH (pF (lC 0) T.Ab (YS T) (-hr) WC (nC (lC 1) wC))) (jE (i:=3) DX.nd rfl (Or.inl rfl)) (FC (kF (pF (lC 0) T.Ab (kY T) (-hr) WC (nC (lC 2) (nC (lC 3) wC))))))
   (FC (kF (pF (lC 0) T.Ab (rO T) (-hr) WC (nC (lC 1) wC))))),?_)
  rfl';simp only[h1];rfl';show(DE ∅,z,s,t,f,j,some r,rfl,hS,ht,hrj,(λq9 e=>by cases e;show hok),λl H1 hl s1 htd=>?_);let(us,hu,hP):=htd;let hul:=Paired.length hP;rw[JG.length_eq] at hul;let S1:=hS.same s1;let hl4:=hS.nf hl;let hlp:l≠z.p:=λe=>by rw[e,h1] at hl;cases hl
  let hsn:(zD r.ks).Nodup:=JG.nodup_iff.mpr hok.2.1;let e0:s.put f' j' (some (WD q ((zD r.ks).take 0)))=s:=by
   have:WD q ((zD r.ks).take 0)=q:=by unfold WD;rw[List.take_zero,iC]
   rw[this];show g6 hqj
  let hqd:H q.hd>(.dT (sE q.ks)):=by
   let(vs,_,x3):=hS.row f';let(_,_,_,_,_,e):=nG x3 hqj;show e
  let kt:∀{G:Hp} {c us},Kg z q.hd H G->H c>(.tup us)->G c>(.tup us):=λk hc=>k _ _ hc (λe=>by rw[e,h1] at hc;cases hc) (λe=>by let(vs,h9):=hS.fours _ e;rw[hc] at h9;cases h9) (λe=>by rw[e,hqd] at hc;cases hc);show(l,rfl,⟨_,uC.of hu⟩,HK (K:=K) (xs:=us) (λi σ G=>∃v,σ=[↑z.p,↑t,↑t',v]/\xC A.Aa A.Ad A.Ac G z (s.put f' j' (some (WD q ((zD r.ks).take i))))/\Ap (s.put f' j' (some (WD q ((zD r.ks).take i))))/\Kg z q.hd H1 G/\∀c,G c=none->H1 c=none) (_,rfl,by rw[e0];show S1,by rw[e0];show hA,(λc o h ο ο ο=>h),λc h=>h) (λi σ G _ zz=>by let(_,zz):=zz;show uC.of (zz.2.2.2.1 _ _ hu hlp hl4 (λe=>by rw[e,hqd] at hl;cases hl))) (λi v σ G hi=>?_) (λσ G=>?_))
  .rintro⟨v3,rfl,S2,A2,k2,d2⟩;let(k9,hk1,a9,rfl,ha9):=QG hP hi;let hkr:k9∈r.ks:=JG.mem_iff.mp (dA hk1);let htk:(zD r.ks).take (i+1)=(zD r.ks).take i++[k9]:=by rw[uB,hk1];rfl
   let hil:=(aA.mp hk1).1;rw[JG.length_eq] at hil;let(dx2,h2):=S2.me;let kt2:∀{c us},H1 c>(.tup us)->G c>(.tup us):=λhc=>k2 _ _ hc (λe=>by rw[e,s1 _ _ h1] at hc;cases hc) (λe=>by let(vs,h9):=S1.fours _ e;rw[hc] at h9;cases h9) (λe=>by rw[e,s1 _ _ hqd] at hc;cases hc);rfl';show(dx2,_,h2,DE ∅,z,_,t',a9,f',j',WD q ((zD r.ks).take i),k9,rfl,S2,A2,kt2 (s1 _ _ ht'),AO hjl',kt2 ha9,λz9=>?_,?_,λH' a1 a2 a3 a4=>?_)
   .let z9||z9:=UA.mp z9
    .show hdj k9 hkr z9
    .let(x,hx):=IA.mp z9;rw[List.getElem?_take] at hx
     split at hx
     .rename_i hxi;let(y1,y2):=aA.mp hx;let(y3,y4):=aA.mp hk1;show (oB.mp hsn) x i y1 y3 hxi (y2.trans y4.symm)
     .cases hx
   .change (q.ks++(zD r.ks).take i).length<=1000;rw[jA,dB];omega
   .let e9:{WD q ((zD r.ks).take i) with ks:=(WD q ((zD r.ks).take i)).ks++[k9]}=WD q ((zD r.ks).take (i+1)):=by
     unfold WD;rw[htk,List.append_assoc]
    rw[nO,e9] at a1 a2;show(a1,a2,λc o hc n1 n2 n3=>a3 c o (k2 c o hc n1 n2 n3) n1 n2 n3,λc hc=>d2 c (a4 c hc))
  .rintro⟨v3,rfl,S2,A2,k2,d2⟩;rw[hul,<-(JG (l:=r.ks)).length_eq,eB] at S2 A2;let(dx2,h2):=S2.me;let kt2:∀{c us},H1 c>(.tup us)->G c>(.tup us):=λhc=>k2 _ _ hc (λe=>by rw[e,s1 _ _ h1] at hc;cases hc) (λe=>by let(vs,h9):=S1.fours _ e;rw[hc] at h9;cases h9) (λe=>by rw[e,s1 _ _ hqd] at hc;cases hc);let T2:=hT.put (r':=WD q (zD r.ks)) hqj;let hlens:=S2.lens;rfl';show(dx2,_,h2,DE ∅,z,_,t,f,j,rfl,S2,kt2 (s1 _ _ ht),?_,λk9 hk9=>?_,λH' a1 a2=>?_)
   .have:=(aA.mp ((EL (s:=s) (o:=some (WD q (zD r.ks))) hne).trans hrj)).1;show this
   .have:=(aA.mp (T2.there j k9 hk9)).1;omega
   .show qq H' a1 (pO A2) (T2.empt ((EL hne).trans hrj)) (λc o hc n1 n2 n3=>a2 c o (k2 c o (s1 _ _ hc) n1 n2 n3) n1 n2) λc hc=>?_;show xD s1 (d2 c (a2.was S2 a1 hc))
set_option genInjectivity false in
structure Fs where
 F:!(!Int×(Bool×Nat))
 s:St
 M:!((Bool×Nat)×(Bool×Nat))
def ZC (s:St) (p:Bool×Nat):Option Sh:=((s.rw p.1)[p.2]?).getD none
def JE (x:Fs) (p:Bool×Nat):Fs:=match ZC x.s p with
 |none=>x
 |some r=>if KF r.ks=true then x else match x.F.find? λe=>decide (e.1=r.b) with
  |none=>{x with F:=x.F++[(r.b,p)]}
  |some e=>match ZC x.s e.2 with
   |none=>x
   |some q=>{x with s:=WE x.s p.1 p.2 e.2.1 e.2.2 r q,M:=x.M++[(p,e.2)]}
def kD (s:St) (i:Nat):Fs:=((spA s).take i).foldl JE ([],s,[])
def dE (s:St):Fs:=kD s (spA s).length
theorem iT {s:St} {i:Nat} {p:Bool×Nat} (h:(spA s)[i]?>p):kD s (i+1)=JE (kD s i) p:=by
 unfold kD;rw[uB,h,List.foldl_append]
 rfl
def cJ (H:Hp) (v:V) (m:(Bool×Nat)×(Bool×Nat)):Prop:=∃a t1 t2,v=.ref a/\H a>(.tup [.ref t1,.ref t2])/\iF H (.ref t1) m.1/\iF H (.ref t2) m.2
theorem cJ.to {H j:Hp} {v:V} {m:(Bool×Nat)×(Bool×Nat)} (h:cJ H v m) (k:∀c us,H c>(.tup us)->j c>(.tup us)):cJ j v m:=by
 let(a,Z,a0,e,O,(q,F,U),(D,J,W)):=h;show(a,Z,a0,e,k _ _ O,(q,F,k _ _ U),(D,J,k _ _ W))
def wF (b:!Int):!Key:=b.map inl
theorem qY:∀{a b:!Int},wF a=wF b->a=b
 |[],[],_=>rfl
 |[],_::_,h=>by cases h
 |_::_,[],h=>by cases h
 |x::a,y::b,h=>by
  unfold wF at h;rw[AA,AA] at h;injection h with h1 h2;rw[Sum.inl.inj h1,qY (a:=a) (b:=b) h2]
def MP (H:Hp) (kv:!Key×V) (e:!Int×(Bool×Nat)):Prop:=kv.1=wF e.1/\iF H kv.2 e.2
theorem rY {H:Hp} {D:!(!Key×V)} {F:!(!Int×(Bool×Nat))} (h:Paired (MP H) D F) {b:!Int}:match F.find? (λe=>decide (e.1=b)) with|none=>tD D (wF b)=none|some e=>∃v,tD D (wF b)>v/\iF H v e.2/\e.1=b:=by
 induction h with
 |nil=>rfl
 |@cons kv e ks es r t ih=>
  let(j,O):=r;let(k0,q):=kv;let j:k0=wF e.1:=j;by_cases c:e.1=b
  .rw[List.find?_cons,BA c];show(q,tN (by rw[j,c]),O,c)
  .rw[List.find?_cons,zA c];let J:tD ((k0,q)::ks) (wF b)=tD ks (wF b):=jM (λU=>c (qY (j.symm.trans U)));change match es.find? (λe=>decide (e.1=b)) with|none=>tD ((k0,q)::ks) (wF b)=none|some e=>∃v,tD ((k0,q)::ks) (wF b)>v/\iF H v e.2/\e.1=b
   rw[J];show ih
structure Fi (s0:St) (i:Nat) (x:Fs):Prop where
 fr:x.s.fr.length=s0.fr.length
 sr:x.s.sr.length=s0.sr.length
 first:∀e∈x.F,(∃q,ZC x.s e.2>q/\q.b=e.1/\KF q.ks=false)/\∃a < i,(spA s0)[a]?>e.2
 nd:((GC x.s).flatMap Sh.ks).Nodup
 tri:∀k∈(GC x.s).flatMap Sh.ks,SE k
 few:∀b,(((GC x.s).filter λr=>decide (r.b=b)).flatMap Sh.ks).length < 64
 fl:x.F.length<=i
 ml:x.M.length<=i
theorem dJ {s:St} {f:Bool} {j:Nat} {r r':Sh} (h:(s.rw f)[j]?>(some r)):(GC s).Perm (r::GC (s.put f j none))/\(GC (s.put f j (some r'))).Perm (r'::GC (s.put f j none)):=by
 cases f with
 |true=>
  let h:s.fr[j]?>(some r):=h;unfold GC;change (als (s.fr++s.sr)).Perm (r::als (s.fr.set j none++s.sr))/\(als (s.fr.set j (some r')++s.sr)).Perm (r'::als (s.fr.set j none++s.sr));rw[eG,eG,eG];show⟨(xL h).append_right _,(US h).append_right _⟩
 |false=>
  let h:s.sr[j]?>(some r):=h;unfold GC;change (als (s.fr++s.sr)).Perm (r::als (s.fr++s.sr.set j none))/\(als (s.fr++s.sr.set j (some r'))).Perm (r'::als (s.fr++s.sr.set j none));rw[eG,eG,eG];show⟨((xL h).append_left _).trans ZA,((US h).append_left _).trans ZA⟩
theorem sY {s:St} {f:Bool} {j:Nat}:GC (UC s f j)=GC (s.put f j none):=by
 cases f with
 |true=>change GC (untie (s.put true j none) j)=_;unfold GC;rw[UF.1,UF.2.1]
 |false=>rfl
theorem jT {s:St} {f f':Bool} {j j':Nat} {r q:Sh} (J:(s.rw f)[j]?>(some r)) (F:(s.rw f')[j']?>(some q)) (D:¬(f=f'/\j=j')):(WD q (zD r.ks)::GC s).Perm (q::r::GC (WE s f j f' j' r q)):=by
 let(O,U):=dJ (r':=WD q (zD r.ks)) F;let(V,_):=dJ (r':=r) ((EL (o:=some (WD q (zD r.ks))) D).trans J);unfold WE;rw[sY];show (List.Perm.cons _ O).trans ((List.Perm.swap ..).trans (List.Perm.cons q ?_));show U.symm.trans V
theorem j6 {s:St} {f:Bool} {j:Nat} {p:Bool×Nat} (h:¬(p.1=f/\p.2=j)):ZC (UC s f j) p=ZC s p:=by
 unfold ZC;let e:(UC s f j).rw p.1=(s.put f j none).rw p.1:=by
  cases f with
  |true=>change (untie (s.put true j none) j).rw p.1=_;cases p.1 with
   |true=>show UF.1
   |false=>show UF.2.1
  |false=>rfl
 rw[e,EL h]
set_option tactic.hygienic true in
theorem BO {s:St} {f f':Bool} {j j':Nat} {r q:Sh} {p:Bool×Nat} (hq:(s.rw f')[j']?>(some q)) (h1:¬(p.1=f/\p.2=j)):ZC (WE s f j f' j' r q) p=if p.1=f'/\p.2=j' then some (WD q (zD r.ks)) else ZC s p:=by
 unfold WE;rw[j6 h1];unfold ZC
 split
 .rename_i e;let(e1,e2):=e;rw[e1,e2,AO (aA.mp hq).1];rfl
 .rename_i e;rw[EL e]
theorem GL {s:St} {f f':Bool} {j j':Nat} {r q:Sh}:(WE s f j f' j' r q).fr.length=s.fr.length/\(WE s f j f' j' r q).sr.length=s.sr.length:=by
 let e:∀(u:St) (b:Bool) (k:Nat) (o:Option Sh),(u.put b k o).fr.length=u.fr.length/\(u.put b k o).sr.length=u.sr.length:=λu b k o=>by
  cases b with
  |true=>show⟨rA,rfl⟩
  |false=>show⟨rfl,rA⟩
 unfold WE;cases f with
 |true=>
  change (untie ((s.put f' j' (some (WD q (zD r.ks)))).put true j none) j).fr.length=_/\(untie ((s.put f' j' (some (WD q (zD r.ks)))).put true j none) j).sr.length=_;rw[UF.1,UF.2.1,(e _ _ _ _).1,(e _ _ _ _).2,(e _ _ _ _).1,(e _ _ _ _).2];show⟨rfl,rfl⟩
 |false=>
  change ((s.put f' j' (some (WD q (zD r.ks)))).put false j none).fr.length=_/\((s.put f' j' (some (WD q (zD r.ks)))).put false j none).sr.length=_;rw[(e _ _ _ _).1,(e _ _ _ _).2,(e _ _ _ _).1,(e _ _ _ _).2];show⟨rfl,rfl⟩
theorem OF {s:St} {p:Bool×Nat} {r:Sh} (h:ZC s p>r):(s.rw p.1)[p.2]?>(some r):=by
 unfold ZC at h;cases e:(s.rw p.1)[p.2]? with
 |none=>rw[e] at h;cases h
 |some o=>rw[e] at h;let h:o>r:=h;rw[h]
theorem CO {s:St}:(spA s).Nodup:=by
 unfold spA;rw[KA];show(?_,?_,λx j y q e=>?_)
 .show List.pairwise_map.mpr (List.nodup_range.imp λh e=>h (Prod.mk.inj e).2)
 .show List.pairwise_map.mpr (List.nodup_range.imp λh e=>h (Prod.mk.inj e).2)
 .let(a,_,rfl):=jB.mp j;let(b,_,rfl):=jB.mp q;cases (Prod.mk.inj e).1
set_option tactic.hygienic true in
theorem Fi.next {s0:St} {i:Nat} {x:Fs} {p:Bool×Nat} (h:Fi s0 i x) (hp:(spA s0)[i]?>p):Fi s0 (i+1) (JE x p):=by
 let more:Fi s0 (i+1) x:=(h.fr,h.sr,λe he=>let ⟨a,b,c,d⟩:=h.first e he;(a,b,⋯,d),h.nd,h.tri,h.few,by have:=h.fl;omega,by have:=h.ml;omega)
 let apart:∀e∈x.F,¬(e.2.1=p.1/\e.2.2=p.2):=λe he z=>by
  let(_,a,ha,e9):=h.first e he;let ep:e.2=p:=Prod.ext z.1 z.2;rw[ep] at e9;let(y1,y2):=aA.mp e9;let(y3,y4):=aA.mp hp;show (oB.mp (CO (s:=s0))) a i y1 y3 ha (y2.trans y4.symm)
 unfold JE;cases e1:ZC x.s p with
 |none=>show more
 |some r=>
  change Fi s0 (i+1) (if KF r.ks=true then x else _)
  split
  .show more
  .rename_i hb;cases e2:x.F.find? λe=>decide (e.1=r.b) with
   |none=>
    show(h.fr,h.sr,λe he=>?_,h.nd,h.tri,h.few,by have:=h.fl;change (x.F++[(r.b,p)]).length<=i+1;rw[jA];change x.F.length+1<=i+1;omega,by have:=h.ml;change x.M.length<=i+1;omega);let he||he:=UA.mp he
    .show more.first e he
    .rw[nA.mp he];show((r,e1,rfl,by cases hx:KF r.ks with|true=>show absurd hx hb|false=>rfl),i,⋯,hp)
   |some e=>
    let heF:=List.mem_of_find?_eq_some e2;let heb:e.1=r.b:=by have:=List.find?_some e2;simpa using this
    let((q,hq,hqb,hqn),_):=h.first e heF;change Fi s0 (i+1) (match ZC x.s e.2 with|none=>x|some q=>{x with s:=WE x.s p.1 p.2 e.2.1 e.2.2 r q,M:=x.M++[(p,e.2)]});rw[hq];let hne:¬(p.1=e.2.1/\p.2=e.2.2):=λz=>apart e heF ⟨z.1.symm,z.2.symm⟩;let pm:=jT (OF e1) (OF hq) hne;let hrb:KF r.ks=false:=by cases hx:KF r.ks with|true=>show absurd hx hb|false=>rfl
    let pmk:((GC x.s).flatMap Sh.ks).Perm ((GC (WE x.s p.1 p.2 e.2.1 e.2.2 r q)).flatMap Sh.ks):=by
     let p9:=pm.flatMap_right Sh.ks;rw[GA,GA,GA] at p9;let p9:((q.ks++zD r.ks)++(GC x.s).flatMap Sh.ks).Perm (q.ks++(r.ks++(GC (WE x.s p.1 p.2 e.2.1 e.2.2 r q)).flatMap Sh.ks)):=p9;rw[List.append_assoc] at p9;let p8:=(List.perm_append_left_iff _).mp p9;show (List.perm_append_left_iff _).mp ((JG.symm.append_right _).trans p8)
    let(l1,l2):=GL (s:=x.s) (f:=p.1) (j:=p.2) (f':=e.2.1) (j':=e.2.2) (r:=r) (q:=q);show(l1.trans h.fr,l2.trans h.sr,λe' he'=>?_,pmk.nodup_iff.mp h.nd,λk hk=>h.tri k (pmk.mem_iff.mpr hk),λb=>?_,(by have:=h.fl;change x.F.length<=i+1;omega),by have:=h.ml;change (x.M++[(p,e.2)]).length<=i+1;rw[jA];change x.M.length+1<=i+1;omega)
    .let((q',x1,x2,x3),a,x4,x5):=h.first e' he';show(?_,a,⋯,x5);change ∃q0,ZC (WE x.s p.1 p.2 e.2.1 e.2.2 r q) e'.2>q0/\_;rw[BO (OF hq) (apart e' he')]
     split
     .rename_i ee;have:e'.2=e.2:=Prod.ext ee.1 ee.2;rw[this,hq] at x1;obtain rfl:=bA x1;show(_,rfl,x2,?_);change (q.ks++zD r.ks).any uI=false;rw[List.any_append];let y1:q.ks.any uI=false:=hqn;let y2:(zD r.ks).any uI=false:=by
       rw[List.any_eq_false];intro k hk;have:=(List.any_eq_false.mp (show r.ks.any uI=false from hrb)) k (JG.mem_iff.mp hk);show this
      rw[y1,y2];rfl
     .show(q',x1,x2,x3)
    .let p9:=(pm.filter λr=>decide (r.b=b)).flatMap_right Sh.ks;let p9:=p9.length_eq;let fw:=h.few b;let eb:(WD q (zD r.ks)).b=q.b:=rfl;by_cases c:r.b=b
     .let cq:q.b=b:=by rw[hqb,heb];show c
      let k1:∀(y:Sh) (l:!Sh),y.b=b->(y::l).filter (λr=>decide (r.b=b))=y::l.filter (λr=>decide (r.b=b)):=λy l hy=>nB (p:=λr:Sh=>decide (r.b=b)) (BA hy);rw[k1 _ _ (eb.trans cq),k1 _ _ cq,k1 _ _ c,GA,GA,GA,jA,jA,jA] at p9;let l9:(WD q (zD r.ks)).ks.length=q.ks.length+r.ks.length:=by change (q.ks++zD r.ks).length=_;rw[jA,JG.length_eq]
      rw[l9] at p9;change (((GC (WE x.s p.1 p.2 e.2.1 e.2.2 r q)).filter λr=>decide (r.b=b)).flatMap Sh.ks).length < 64;omega
     .let cq:¬(q.b=b):=by rw[hqb,heb];show c
      let k1:∀(y:Sh) (l:!Sh),¬(y.b=b)->(y::l).filter (λr=>decide (r.b=b))=l.filter (λr=>decide (r.b=b)):=λy l hy=>fB (p:=λr:Sh=>decide (r.b=b)) (by simpa using hy);rw[k1 _ _ (λz=>cq (eb.symm.trans z)),k1 _ _ cq,k1 _ _ c] at p9;change (((GC (WE x.s p.1 p.2 e.2.1 e.2.2 r q)).filter λr=>decide (r.b=b)).flatMap Sh.ks).length < 64;omega
theorem xC.bxl {C P S:Addr} {H:Hp} {J:Ss} {s:St} (h:xC C P S H J s) {r:Sh} (j:some r∈s.fr\/some r∈s.sr):H r.bx>(.lst (r.b.map V.int)):=by
 let(_,_,_,_,D,_):=h.fr;let(_,_,_,_,F,_):=h.sl;let j||j:=j
 .let(i,q):=IA.mp j;let(_,_,_,_,e,_):=nG D q;show e
 .let(i,q):=IA.mp j;let(_,_,_,_,e,_):=nG F q;show e
theorem xC.lup {C P S:Addr} {G:Hp} {j:Ss} {s:St} {g:Addr} {us:!V} {o:HO} (h:xC C P S G j s) (F:G g>(.lst us)) (ac:g∉j.four) (U:∀r∈GC s,r.bx≠g):xC C P S (upd G g o) j s:=by
 let(W,ab):=h.me;let(Z,ae,a1,a2,a3,a4,a5):=id h.fr;let(a0,af,a6,a7,a8,a9,aa):=id h.sl;let O:∀{c D d fs},G c>(.ins D d fs)->upd G g o c>(.ins D d fs):=λq=>by rw[sC (HD q F nofun)];show q
 let nf:∀{c u},G c>u->c∈j.four->upd G g o c>u:=λq ad=>by rw[sC (λe=>ac (by rw[<-e];show ad))];show q
 show(⟨W,O ab⟩,(Z,ae,O a1,nf a2 (SG (f:=true)),QH F a3 (λr J=>U r (gF.mpr (.inl J))),nf a4 (RH (f:=true)),a5),(a0,af,O a6,nf a7 (SG (f:=false)),QH F a8 (λr J=>U r (gF.mpr (.inr J))),nf a9 (RH (f:=false)),aa),h.n4,h.bx,h.len,h.hh)
theorem o6 {f f':Bool} (h:EE f=EE f'):f=f':=by
 cases f<;>cases f'<;>first|rfl|exact absurd h ∅
def EI (p:Bool×Nat):!Key:=[.inr (EE p.1),.inl (p.2:Int)]
theorem tY {p q:Bool×Nat} (h:EI p=EI q):p=q:=by
 injection h with F j;injection j with j _;let D:=o6 (Sum.inr.inj F);let J:(p.2:Int)=q.2:=Sum.inl.inj j;show Prod.ext D ⋯
theorem HL {S j:Addr} {G:Hp} {F:!(!Key×V)} {o:HO} (D:G j>(.dT F)) {vs:!V} {rows:!(Option Sh)} (h:RD S G vs rows) (q:∀r,some r∈rows->r.hd≠j):RD S (upd G j o) vs rows:=JP D h q
theorem xC.dup {C P S:Addr} {G:Hp} {j:Ss} {s:St} {F:Addr} {ag:!(!Key×V)} {o:HO} (h:xC C P S G j s) (J:G F>(.dT ag)) (hd:∀r∈GC s,r.hd≠F):xC C P S (upd G F o) j s:=by
 let D:∀{c u},G c>u->(∀us,u≠.dT us)->upd G F o c>u:=λ{c u} U af=>by rw[sC (λj=>by rw[j,J] at U;show af _ (bA U).symm)];show U
 let(a0,ad):=h.me;let(a1,ah,a3,a4,a5,a6,a7):=id h.fr;let(a2,ai,a8,a9,aa,ab,ac):=id h.sl;let am:∀{v:V} {r:Option Sh},(∀q,r>q->q.hd≠F)->bD S G v r->bD S (upd G F o) v r:=λ{v r} O J=>by
  cases r with
  |none=>show J
  |some r=>
   let(e,(x,aj),ak,al):=J;show(e,⟨x,D aj λο j=>nomatch j⟩,D ak (λο j=>nomatch j),by rw[sC (O r rfl)];show al)
 let Z:∀{vs:!V} {rows:!(Option Sh)},RD S G vs rows->(∀r,some r∈rows->r.hd≠F)->RD S (upd G F o) vs rows:=λ{vs rows} ae O=>HL J ae O;show(⟨a0,D ad λο j=>nomatch j⟩,(a1,ah,D a3 (λο j=>nomatch j),D a4 (λο j=>nomatch j),Z a5 (λr W=>hd r (gF.mpr (.inl W))),D a6 (λο j=>nomatch j),a7),(a2,ai,D a8 (λο j=>nomatch j),D a9 (λο j=>nomatch j),Z aa (λr W=>hd r (gF.mpr (.inr W))),D ab (λο j=>nomatch j),ac),h.n4,h.bx,h.len,h.hh)
def uE (s:St):!(!Key):=(GC s).flatMap Sh.ks
theorem kT {s:St} {f f':Bool} {j j':Nat} {x:Option Sh} {o:Option Sh} (h:(s.rw f)[j]?>o) (ne:¬(f'=f/\j'=j)):((s.put f' j' x).rw f)[j]?>o:=by
 cases f<;>cases f'
 .change (s.sr.set j' x)[j]?>o;rw[oA,gA (λz=>ne ⟨rfl,z⟩)];show h
 .show h
 .show h
 .change (s.fr.set j' x)[j]?>o;rw[oA,gA (λz=>ne ⟨rfl,z⟩)];show h
theorem IL {s:St} {f:Bool} {j:Nat}:(UC s f j).fr=(s.put f j none).fr/\(UC s f j).sr=(s.put f j none).sr:=by
 cases f with
 |true=>show⟨UF.1,UF.2.1⟩
 |false=>show⟨rfl,rfl⟩
theorem NP {s:St} (h:Fi s 0 ([],s,[])):∀i,i<=(spA s).length->Fi s i (kD s i)
 |0,_=>h
 |i+1,hi=>by
  obtain⟨p,hp⟩:∃p,(spA s)[i]?>p:=⟨_,cA ⋯⟩
  rw[iT hp];show (NP h i ⋯).next hp
theorem p6 {s:St} {f f':Bool} {j j':Nat} {r q:Sh}:(WE s f j f' j' r q).h=s.h/\(WE s f j f' j' r q).go=s.go/\(WE s f j f' j' r q).ga=s.ga/\(WE s f j f' j' r q).cb=s.cb:=by
 unfold WE UC;let(_,_,D,F,J,O):=UF (s:=(s.put f' j' (some (WD q (zD r.ks)))).put true j none) (i:=j);cases f<;>cases f'<;>simp only[if_true,aB,GB]<;>first|exact(rfl,rfl,rfl,rfl)|exact(D,F,J,O)
structure JL (s x:St):Prop where
 ky:(uE x).Perm (uE s)
 bx:∀r∈GC x,∃r0∈GC s,r.b=r0.b/\r.hd=r0.hd/\r.sh=r0.sh/\r.bx=r0.bx
 bs:∀r0∈GC s,∃r∈GC x,r.b=r0.b
 ad:∃l,((GC x).map Sh.bx++l).Perm ((GC s).map Sh.bx)
 ne:(∀r∈GC s,r.ks≠[])->∀r∈GC x,r.ks≠[]
 h:x.h=s.h
 go:x.go=s.go
 ga:x.ga=s.ga
 cb:x.cb=s.cb
theorem JL.step {J:St} {i:Nat} {x:Fs} {p:Bool×Nat} (h:Fi J i x) (af:(spA J)[i]?>p) (k:JL J x.s):JL J (JE x p).s:=by
 unfold JE;cases a8:ZC x.s p with
 |none=>show k
 |some r=>
  change JL J (if KF r.ks=true then x else _).s
  split
  .show k
  .cases a2:x.F.find? λe=>decide (e.1=r.b) with
   |none=>show k
   |some e=>
    let ad:=List.mem_of_find?_eq_some a2;let((q,V,ag,ay),a,ac,a3):=h.first e ad;change JL J (match ZC x.s e.2 with|none=>x|some q=>{x with s:=WE x.s p.1 p.2 e.2.1 e.2.2 r q,M:=x.M++[(p,e.2)]}).s;rw[V];let a5:¬(p.1=e.2.1/\p.2=e.2.2):=λW=>by
     let ep:e.2=p:=Prod.ext W.1.symm W.2.symm;rw[ep] at a3;let(au,av):=aA.mp a3;let(aw,ax):=aA.mp af;show (oB.mp (CO (s:=J))) a i au aw ac (av.trans ax.symm)
    let pm:=jT (OF a8) (OF V) a5;let am:(uE x.s).Perm (uE (WE x.s p.1 p.2 e.2.1 e.2.2 r q)):=by
     let F:=pm.flatMap_right Sh.ks;rw[GA,GA,GA] at F;let F:((q.ks++zD r.ks)++(GC x.s).flatMap Sh.ks).Perm (q.ks++(r.ks++(GC (WE x.s p.1 p.2 e.2.1 e.2.2 r q)).flatMap Sh.ks)):=F;rw[List.append_assoc] at F;let a1:=(List.perm_append_left_iff _).mp F;show (List.perm_append_left_iff _).mp ((JG.symm.append_right _).trans a1)
    let a7:q∈GC x.s:=by
     let D:=OF V;rw[gF];cases O:e.2.1 with
     |true=>rw[O] at D;show .inl (dA D)
     |false=>rw[O] at D;show .inr (dA D)
    let(aj,ak,o3,al):=p6 (s:=x.s) (f:=p.1) (j:=p.2) (f':=e.2.1) (j':=e.2.2) (r:=r) (q:=q);show(am.symm.trans k.ky,λr' a0=>?_,λao ah=>?_,?_,λa4 r' a0=>?_,aj.trans k.h,ak.trans k.go,o3.trans k.ga,al.trans k.cb)
    .let D:r'∈WD q (zD r.ks)::GC x.s:=pm.mem_iff.mpr (kA _ (kA _ a0));let rfl||D:=xA.mp D
     .show k.bx q a7
     .show k.bx r' D
    .let a6:WD q (zD r.ks)∈GC (WE x.s p.1 p.2 e.2.1 e.2.2 r q):=by
      let ab:=OF V;let aa:((x.s.put e.2.1 e.2.2 (some (WD q (zD r.ks)))).rw e.2.1)[e.2.2]?>(some (WD q (zD r.ks))):=AO (aA.mp ab).1;let U:=kT (x:=none) aa a5;let(aq,ar):=IL (s:=x.s.put e.2.1 e.2.2 (some (WD q (zD r.ks)))) (f:=p.1) (j:=p.2);rw[gF];change some (WD q (zD r.ks))∈(UC (x.s.put e.2.1 e.2.2 (some (WD q (zD r.ks)))) p.1 p.2).fr\/some (WD q (zD r.ks))∈(UC (x.s.put e.2.1 e.2.2 (some (WD q (zD r.ks)))) p.1 p.2).sr;rw[aq,ar];cases O:e.2.1 with
      |true=>rw[O] at U;show .inl (dA U)
      |false=>rw[O] at U;show .inr (dA U)
     let ai:r.b=q.b:=by
      have:=List.find?_some a2;rw[ag];show (of_decide_eq_true this).symm
     let(ap,a9,Z):=k.bs ao ah;let rfl||D:=xA.mp (pm.mem_iff.mp (kA _ a9))
     .show(_,a6,Z)
     .let rfl||D:=xA.mp D
      .show(_,a6,ai.symm.trans Z)
      .show(ap,D,Z)
    .let(l,ae):=k.ad;let F:=pm.map Sh.bx;rw[AA,AA,AA] at F;let a1:((GC x.s).map Sh.bx).Perm (r.bx::(GC (WE x.s p.1 p.2 e.2.1 e.2.2 r q)).map Sh.bx):=(List.perm_cons q.bx).mp F;show⟨r.bx::l,(ZA.trans ((a1.symm.append_right l))).trans ae⟩
    .let D:r'∈WD q (zD r.ks)::GC x.s:=pm.mem_iff.mpr (kA _ (kA _ a0));let rfl||D:=xA.mp D
     .show λW=>k.ne a4 q a7 (List.append_eq_nil_iff.mp W).1
     .show k.ne a4 r' D
theorem OP {s:St} (h:Fi s 0 ([],s,[])):∀i,i<=(spA s).length->JL s (kD s i).s
 |0,_=>(mB _,λr hr=>(r,hr,rfl,rfl,rfl,rfl),λr hr=>(r,hr,rfl),⟨[],by rw[iC];show mB _⟩,λh=>h,rfl,rfl,rfl,rfl)
 |i+1,hi=>by
  obtain⟨p,hp⟩:∃p,(spA s)[i]?>p:=⟨_,cA ⋯⟩
  rw[iT hp];show JL.step (NP h i ⋯) hp (OP h i ⋯)
def Kz (z:Ss) (s:St) (H H':Hp):Prop:=∀c o,H c>o->c≠z.p->c∉z.four->c∉dG s->H' c>o
structure uY (A:cE) (H:Hp) (z:Ss) (s:St) (d g l:Addr) (us:!V) (i:Nat) (G:Hp):Prop where
 ss:xC A.Aa A.Ad A.Ac G z (kD s i).s
 ap:Ap (kD s i).s
 tw:Tw (kD s i).s
 hd:∀r∈GC (kD s i).s,r.hd≠d/\r.bx≠g
 dd:∃kvs,G d>(.dT kvs)/\Paired (MP G) kvs (kD s i).F
 gg:∃ys,G g>(.lst ys)/\Paired (cJ G) ys (kD s i).M
 ll:G l>(.lst us)/\Paired (iF G) us (spA s)
 fi:Fi s i (kD s i)
 kd:Kz z s H G
 dm:∀c,G c=none->H c=none
def vY (A:cE):Sp:=λvs H Q ο=>∃(z:Ss) (s:St),vs=[.ref z.p]/\xC A.Aa A.Ad A.Ac H z s/\Ap s/\Tw s/\Fi s 0 ([],s,[])/\
 ∀H' g ys,xC A.Aa A.Ad A.Ac H' z (dE s).s->Ap (dE s).s->Tw (dE s).s->Fi s (spA s).length (dE s)->H g=none->H' g>(.lst ys)->Paired (cJ H') ys (dE s).M->Kz z s H H'->(∀c,H' c=none->H c=none)->Q (.ref g) H'
theorem KL (T:LD K mg A):SC P w K mg base A.Aa "fold" 4 ["self"] [] (vY A):=by
 show T.Ec.have sM (λvs H Q E D=>?_) ?_
 .let(D,s,rfl,_):=D;rfl
 .intro f ey eu fb s H vs Q E a3 D;let(D,s,rfl,ad,du,dw,cn,q):=D;let(dl,bp):=ad.me;let hz:=PySem.sizeLine_eq;show(_,(OC (mD (i:=1) sM.nd rfl (Or.inl rfl) sW)
   (OC (mD (i:=2) sM.nd rfl (Or.inl rfl) (cF wC))
   (OC (DG RA rfl (vH (rG (lC 0) T.Ab (zO T) (-a3) WC)) (jE (i:=3) sM.nd rfl (Or.inl rfl)) (AD (mD (i:=4) sM.nd rfl (Or.inl rfl) (pF (lC 0) T.Ab (tI T) (-a3) WC (nC (lC 3) wC)))
   (FC (JD (PW.pt (uH (CD wH (lC 4) BD (rC _)) (tH (yI (gG (rG (lC 4) T.An (yO T) (-a3) WC)))))) (OC (mD (i:=5) sM.nd rfl (Or.inl rfl) (oX (xN a3) (lC 1) (aH jW rfl T.Ck PyProof.Rows.boot_tuple (nC (YC (lC 4) rfl) wC)) (lC 3) (rfl,rfl,rfl,rfl)))
   (FC (JD (CD (mM (n:=4) (AI a3)) (lC 5) (lC 3) (rC _)) (OC (kF (pF (lC 0) T.Ab (FL T) (-a3) WC (nC (lC 3) (nC (lC 5) wC))))
   (FC (kF (lH PySem.F.plainAttrs_list PySem.F.slot_list_append PySem.F.type_list_append BH (lC 2) (nC (aF (nC (lC 3) (nC (lC 5) wC))) wC))))) KD))) KD))))
   (FC (sD (lC 2)))))),?_)
  unfold iH IK;rfl';intro a6 hd g be;let(cb,ce):=jD (o:=.dT []) hd;let(cc,cg):=jD (o:=.lst []) be;let bb:=cb.trans cc;let dk:=cc _ _ ce;let ao:=xD cb be;generalize upd (upd H a6 (.dT [])) g (.lst [])=H2 at *;show(dl,_,bb _ _ bp,DE ∅,D,s,rfl,ad.same bb,λev l us c5 bu cw dv=>?_);let c4:=bb.trans c5;let e2:∀r∈GC s,r.hd≠a6:=λr a3 e=>by
   let bt:r.hd∈dG s:=by
    unfold dG;show vG.mpr (r,bJ.mp a3,rfl)
   let(ab,U):=ad.hd _ bt;rw[e,hd] at U;cases U
  let f2:g≠a6:=λe=>by rw[e,ce] at be;cases be
  let e4:l≠g:=λe=>by rw[e,cg] at bu;cases bu
  let bv:=xD bb bu;show(l,rfl,⟨_,uC.of cw⟩,HK (K:=K) (xs:=us) (λi aw G=>∃c7 c8 bl,aw=[↑D.p,↑a6,↑g,c7,c8,bl]/\uY A H D s a6 g l us i G) (_,_,_,rfl,(ad.same c4,du,dw,(λr a3=>⟨e2 r a3,λe=>by have:=ad.bxl (gF.mp a3);rw[e,ao] at this;cases this⟩),([],c5 _ _ dk,.nil),([],c5 _ _ cg,.nil),⟨cw,dv⟩,cn,λc o h ο ο ο=>c4 c o h,λc J=>xD c4 J)) (λi aw G _ c9=>by let(_,_,_,c9):=c9;show uC.of c9.2.ll.1) (λi v aw G e6=>?_) (λaw G=>?_))
  .rintro⟨c7,c8,bl,rfl,a0⟩;let(br,bc):=a0.ll;let(p,ap,t,rfl,cy):=QG bc e6;let(ab,co,b1):=a0.dd;let(aj,b0,am):=a0.gg;let(ch,bq):=a0.ss.me;let O:=iT ap;let ck:=a0.fi.next ap;let ai:=a0.ss;let c0:=a0.ap;let c3:=a0.tw;let ar:=a0.hd;let a7:=a0.fi;let c2:=a0.kd;let ei:=OP cn i (by have:=(aA.mp ap).1;omega);let c1:=a0.dm;clear a0;generalize kD s i=x at *;let ed:p.2 < (x.s.rw p.1).length:=by
    have:=dA ap;unfold spA at this;let U||U:=UA.mp this
    .let(y,a5,rfl):=jB.mp U;have:=List.mem_range.mp a5;change y < x.s.fr.length;rw[a7.fr];show this
    .let(y,a5,rfl):=jB.mp U;have:=List.mem_range.mp a5;change y < x.s.sr.length;rw[a7.sr];show this
   obtain⟨o,aa⟩:∃o,(x.s.rw p.1)[p.2]?>o:=⟨_,cA ed⟩
   let eb:ZC x.s p=o:=by unfold ZC;rw[aa];rfl
   rfl';show(λaw dd=>∃b9,aw=[↑D.p,↑a6,↑g,↑t,some b9,bl]/\dd=G/\bD A.Ac G b9 o,?_,λfc ca=>?_)
   .rfl';show(ch,_,bq,DE ∅,DS D x.s t p.1 p.2 o (rfl,ai,cy,aa,λb9 b5=>⟨rfl,b5⟩))
   rintro⟨b9,rfl,rfl,b5⟩;let stay:kD s (i+1)=x->∀bn,pC ca bn->uY A H D s a6 g l us (i+1) bn:=λe bn ac=>by
    let ay:=ck;rw[<-O,e] at ay;show(by rw[e];show ai.same ac,by rw[e];show c0,by rw[e];show c3,by rw[e];show ar,(ab,ac _ _ co,by rw[e];show Paired.mapP b1 λ_ _ ⟨a8,a4⟩=>⟨a8,a4.same ac⟩),(aj,ac _ _ b0,by rw[e];show Paired.mapP am λο ο h=>h.to λc us J=>ac _ _ J),⟨ac _ _ br,Paired.mapP bc λο ο h=>h.same ac⟩,by rw[e];show ay,(λc o h a b e=>ac _ _ (c2 c o h a b e)),λc J=>c1 c (xD ac J))
   let ay:Fi s (i+1) (kD s (i+1)):=by rw[O];show ck
   unfold JE at O;rw[eb] at O;rfl';cases o with
   |none=>
    obtain rfl:b9=.non:=b5;show aJ (by rw[BA rfl];rfl) (stay O ca vD)
   |some r=>
    let(rfl,(ci,cm),dq,f0):=id b5;let cx:r∈GC x.s:=by
     rw[gF];cases W:p.1 with
     |true=>rw[W] at aa;show .inl (dA aa)
     |false=>rw[W] at aa;show .inr (dA aa)
    let cv:∀k∈r.ks,k∈(GC x.s).flatMap Sh.ks:=λk ah=>eC.mpr (r,cx,ah);let ea:r.ks.length < 64:=by
     have:=a7.few r.b;let U:r.ks.length<=(((GC x.s).filter λy=>decide (y.b=r.b)).flatMap Sh.ks).length:=by
      let bw:r∈(GC x.s).filter λy=>decide (y.b=r.b):=yB.mpr ⟨cx,BA rfl⟩;let(d2,d3,W):=fC bw;rw[W,aC,GA,jA,jA];omega
     omega
    let O:kD s (i+1)=if KF r.ks=true then x else match x.F.find? λe=>decide (e.1=r.b) with
     |none=>{x with F:=x.F++[(r.b,p)]}
     |some e=>match ZC x.s e.2 with
      |none=>x
      |some q=>{x with s:=WE x.s p.1 p.2 e.2.1 e.2.2 r q,M:=x.M++[(p,e.2)]}:=O
    show pI (by rw[zA nofun];rfl) (r.sh,rfl,ci,_,cm,SJ ∅,_,r,rfl,b5,λk ah=>a7.tri k (cv k ah),⋯,λak b7=>(_,rfl,?_));cases bd:KF r.ks with
    |true=>
     rw[bd,iA rfl] at O;show aJ rfl (stay O ak b7)
    |false=>
     rw[bd,gA (by decide)] at O;let cp:=b7 _ _ co;let dn:r.b.map V.int=(wF r.b).map kV:=by unfold wF;rw[List.map_map];rfl
     show pI rfl (.inr ⟨_,.inl cp⟩,r.sh,rfl,_,ci,_,b7 _ _ cm,T.An,T.At,_,uM,r.bx,rfl,_,.inl ⟨uC.of (b7 _ _ dq),λb8 eg=>?_⟩);let(cd,ew):=jD (o:=.tup (r.b.map V.int)) eg;let Z:=b7.trans cd;let ag:=cd _ _ cp;let f4:=Paired.length b1;let f3:=(aA.mp ap).1;let f9:(spA s).length<=128:=by
      unfold spA;rw[jA,fA,fA,WA,WA];have:=ad.len;omega
     let f1:=a7.fl;let a9:=rY b1 (b:=r.b);let aq:=Z _ _ cy;let e5:g≠D.p:=λe=>by rw[e,bp] at ao;cases ao
     let cr:g∉D.four:=ad.nf ao;let ec:l≠D.p:=λe=>by rw[e,bp] at bv;cases bv
     let e8:l∉D.four:=ad.nf bv;show(ab,ag,wF r.b,by rw[dn],⋯,λv b4=>?_,λb4=>?_)
     .cases a4:x.F.find? λe=>decide (e.1=r.b) with
      |none=>rw[a4] at a9;let a9:tD ab (wF r.b)=none:=a9;rw[b4] at a9;cases a9
      |some e=>
       rw[a4] at a9 O;let(en,ax,(t',rfl,ef),ez):=a9;rw[b4] at ax;obtain rfl:=bA ax;let e3:=List.mem_of_find?_eq_some a4;let((a2,b2,f6,f7),di,dy,W):=a7.first e e3;let bg:¬(p.1=e.2.1/\p.2=e.2.2):=λD=>by
        let ep:e.2=p:=Prod.ext D.1.symm D.2.symm;rw[ep] at W;let(eo,eq):=aA.mp W;let(er,et):=aA.mp ap;show (oB.mp (CO (s:=s))) di i eo er dy (eq.trans et.symm)
       let O:kD s (i+1)={x with s:=WE x.s p.1 p.2 e.2.1 e.2.2 r a2,M:=x.M++[(p,e.2)]}:=by
        rw[O];change (match ZC x.s e.2 with|none=>x|some q=>_)=_;rw[b2]
       let bz:=Z _ _ ef;show(true,UE (EI e.2),YI bz,UE (EI p),YI aq,ON _ _,by rw[rM];omega,?_);rw[NN,zA (λD=>bg (by have:=tY D;rw[this];show⟨rfl,rfl⟩))];let b3:a2∈GC x.s:=by
        rw[gF];have:=OF b2;cases W:e.2.1 with
        |true=>rw[W] at this;show .inl (dA this)
        |false=>rw[W] at this;show .inr (dA this)
       let pm:=jT (r:=r) aa (OF b2) bg;let cq:∀y∈GC (WE x.s p.1 p.2 e.2.1 e.2.2 r a2),∃av∈GC x.s,y.hd=av.hd/\y.bx=av.bx:=λy a5=>by
        let W||W:=xA.mp (pm.mem_iff.mpr (kA _ (kA _ a5)))
        .show(a2,b3,by rw[W];rfl,by rw[W];rfl)
        .show(y,W,rfl,rfl)
       let ee:a2∈GC (x.s.put p.1 p.2 none):=by
        let U:=(EL (s:=x.s) (o:=none) (f:=e.2.1) (j:=e.2.2) (f':=p.1) (j':=p.2) (λD=>bg ⟨D.1.symm,D.2.symm⟩)).trans (OF b2);rw[gF];cases cj:e.2.1 with
        |true=>rw[cj] at U;show .inl (dA U)
        |false=>rw[cj] at U;show .inr (dA U)
       let dp:∀y∈GC x.s,y.ks.length < 64:=λy a5=>by
        have:=a7.few y.b;let U:y.ks.length<=(((GC x.s).filter λu=>decide (u.b=y.b)).flatMap Sh.ks).length:=by
         let bw:y∈(GC x.s).filter λu=>decide (u.b=y.b):=yB.mpr ⟨a5,BA rfl⟩;let(d2,d3,W):=fC bw;rw[W,aC,GA,jA,jA];omega
        omega
       let two:(r.ks++a2.ks).Nodup/\r.ks.length+a2.ks.length < 128:=by
        let d8:=((dJ (r':=r) aa).1.flatMap_right Sh.ks).nodup_iff.mp a7.nd;rw[GA] at d8;let(ej,d4,d5):=KA.mp d8;let(d2,d3,W):=fC ee;rw[W,aC,GA] at d4 d5;let(_,ek,_):=KA.mp d4;let(el,_,_):=KA.mp ek;show⟨KA.mpr (ej,el,λa bt b bd=>d5 a bt b (DA _ (xB _ bd))),?_⟩;have:=dp a2 b3;omega
       show pI rfl (ch,_,Z _ _ bq,DE ∅,SN D x.s t t' p.1 e.2.1 p.2 e.2.2 r a2 (rfl,ai.same Z,c0,c3,aq,bz,aa,OF b2,bg,(ea,(KA.mp two.1).1,λk ah=>a7.tri k (cv k ah)),(λk ah e7=>(KA.mp two.1).2.2 k ah k e7 rfl),⋯,λal de df dg ba dh=>?_));let bh:∃bm,upd ak b8 (.tup (r.b.map V.int)) a2.hd>(.dT bm):=by
        let(bm,U):=ai.hd a2.hd (by unfold dG;show vG.mpr (a2,bJ.mp b3,rfl));show⟨bm,Z _ _ U⟩
       let(bm,bh):=bh;let cz:=Z _ _ bq;let b6:∀{c us},upd ak b8 (.tup (r.b.map V.int)) c>(.tup us)->al c>(.tup us):=λJ=>ba _ _ J (λe=>by rw[e,cz] at J;cases J) (λe=>by let(vs,U):=(ai.same Z).fours _ e;rw[J] at U;cases U) (λe=>by rw[e,bh] at J;cases J);let d1:∀{c us},upd ak b8 (.tup (r.b.map V.int)) c>(.lst us)->c≠D.p->c∉D.four->al c>(.lst us):=λJ bi bj=>ba _ _ J bi bj (λe=>by rw[e,bh] at J;cases J);let cu:=d1 (Z _ _ b0) e5 cr;let e9:=d1 (Z _ _ br) ec e8;let e1:al a6>(.dT ab):=ba _ _ ag (λe=>by rw[e,cz] at ag;cases ag) (λe=>by let(vs,U):=(ai.same Z).fours _ e;rw[ag] at U;cases U) (λe=>(ar a2 b3).1 e.symm);let fa:=Paired.length am;let f5:=a7.ml;show⟨.inl (rfl,_,uC.of cu),λau eh=>?_⟩;let(ae,cf):=jD (o:=.tup [V.ref t,V.ref t']) eh;let bf:=ae _ _ cu;let a1:∀{c u},al c>u->(∀us,u≠.lst us)->upd (upd al au (.tup [V.ref t,V.ref t'])) g (.lst (aj++[V.ref au])) c>u:=λ{c u} J bx=>by rw[sC (HD (ae _ _ J) bf (λe=>bx _ e))];show ae _ _ J
       let dj:upd (upd al au (.tup [V.ref t,V.ref t'])) g (.lst (aj++[V.ref au])) au>(.tup [V.ref t,V.ref t']):=by rw[sC (HD cf bf nofun)];show cf
       show(aj,bf,⋯,?_);show(by rw[O];show (de.same ae).lup bf cr (λy a5=>by let(av,az,_,U):=cq y a5;rw[U];show (ar av az).2),by rw[O];show df,by rw[O];show dg,by rw[O];show λy a5=>(by let(av,az,U,dr):=cq y a5;rw[U,dr];show ar av az),(ab,a1 e1 (λο D=>nomatch D),?_),(_,HC,?_),⟨?_,?_⟩,ay,?_,?_)
       .rw[O];show Paired.mapP b1 λ_ _ ⟨a8,a,a4,af⟩=>(a8,a,a4,a1 (b6 (Z _ _ af)) (λο D=>nomatch D))
       .rw[O];show UG (Paired.mapP am λο ο h=>h.to λc us J=>a1 (b6 (Z _ _ J)) (λο D=>nomatch D)) (au,t,t',rfl,dj,(t,rfl,a1 (b6 aq) (λο D=>nomatch D)),(t',rfl,a1 (b6 bz) (λο D=>nomatch D)))
       .rw[sC e4];show ae _ _ e9
       .show Paired.mapP bc λ_ _ ⟨a,a8,af⟩=>(a,a8,a1 (b6 (Z _ _ af)) (λο D=>nomatch D))
       .show λc o J bi bj d7=>?_;let dz:=c2 c o J bi bj d7;let e0:=ba c o (Z _ _ dz) bi bj (λe=>by let(em,az,_,U,_):=ei.bx a2 b3;show d7 (by rw[e,U];unfold dG;show vG.mpr (em,bJ.mp az,rfl)));rw[sC (λe=>by rw[e,ao] at J;cases J)];show ae _ _ e0
       .intro c J;by_cases W:c=g
        .rw[W,HC] at J;cases J
        .rw[sC W] at J;show c1 c (xD Z (dh c (xD ae J)))
     .cases a4:x.F.find? λe=>decide (e.1=r.b) with
      |some e=>rw[a4] at a9;let(en,ax,_):=a9;rw[b4] at ax;cases ax
      |none=>
       rw[a4] at O;let O:kD s (i+1)={x with F:=x.F++[(r.b,p)]}:=O;let ep:lE ab (wF r.b) (.ref t)=ab++[(wF r.b,.ref t)]:=XS b4;rw[ep];let a1:∀{c u},upd ak b8 (.tup (r.b.map V.int)) c>u->(∀us,u≠.dT us)->upd (upd ak b8 (.tup (r.b.map V.int))) a6 (.dT (ab++[(wF r.b,.ref t)])) c>u:=λ{c u} J bx=>by rw[sC (λe=>by rw[e,ag] at J;show bx _ (bA J).symm)];show J
       show(true,UE (EI p),YI (a1 aq (λο D=>nomatch D)),UE (EI p),YI (a1 aq (λο D=>nomatch D)),ON _ _,by rw[rM];omega,?_);rw[NN,BA rfl];show aJ rfl ?_;show(by rw[O];show (ai.same Z).dup ag (λr a3=>(ar r a3).1),by rw[O];show c0,by rw[O];show c3,by rw[O];show ar,(_,HC,?_),(aj,a1 (Z _ _ b0) (λο D=>nomatch D),?_),⟨a1 (Z _ _ br) (λο D=>nomatch D),Paired.mapP bc λ_ _ ⟨a,a8,af⟩=>(a,a8,a1 (Z _ _ af) (λο D=>nomatch D))⟩,ay,(λc o J a b e=>by let dt:=Z _ _ (c2 c o J a b e);rw[sC (λD=>by rw[D,hd] at J;cases J)];show dt),λc J=>c1 c ?_)
       .rw[O];show UG (Paired.mapP b1 λ_ _ ⟨a8,a,a4,af⟩=>(a8,a,a4,a1 (Z _ _ af) (λο D=>nomatch D))) (rfl,t,rfl,a1 aq (λο D=>nomatch D))
       .rw[O];show Paired.mapP am λο ο h=>h.to λc us J=>a1 (Z _ _ J) (λο D=>nomatch D)
       .by_cases W:c=a6
        .rw[W,HC] at J;cases J
        .rw[sC W] at J;show xD Z J
  .rintro⟨c7,c8,bl,rfl,a0⟩;let(aj,b0,am):=a0.gg;rw[Paired.length a0.ll.2] at *;rfl';show q _ g aj a0.ss a0.ap a0.tw a0.fi ao b0 am a0.kd a0.dm
abbrev Lb:=Addr->Nat
def lab (L:Lb) (p:Addr) (k:Nat):Lb:=λc=>if c=p then k else L c
theorem NH {L:Lb} {p:Addr} {k:Nat}:lab L p k p=k:=iA rfl
theorem qH {L:Lb} {p c:Addr} {k:Nat} (h:c≠p):lab L p k c=L c:=gA h
def Lv (L:Lb) (H:Hp):Prop:=∀c,L c≠0->∃us,H c>(.lst us)
def Lx (L L':Lb) (H:Hp):Prop:=∀c,L' c=L c\/H c=none
def Dm (H H':Hp):Prop:=∀c,H' c=none->H c=none
def TF (o:HO):Prop:=∃us,o=.tup us\/∃p,o=.frz p (.lst us)
theorem LL {us:!V}:TF (.tup us):=⟨us,.inl rfl⟩
theorem Lv.zero {j:Lb} {H:Hp} (h:Lv j H) {c:Addr} {o:HO} (D:H c>o) (F:∀us,o≠.lst us):j c=0:=LA λe=>by
 let(us,q):=h c e;rw[D] at q;show F us (bA q)
theorem gK {o:HO} (h:TF o):∀us,o≠.lst us:=λus j=>by
 let(q,h||(p,h)):=h<;>(rw[j] at h;cases h)
theorem Lv.lx {j q:Lb} {H:Hp} (h:Lv j H) (x:Lx j q H) {c:Addr} (F:j c≠0):q c=j c:=by
 let e||e:=x c
 .show e
 .let(us,D):=h c F;rw[e] at D;cases D
structure Mv (S:!Nat) (L L':Lb) (H H':Hp):Prop where
 lx:Lx L L' H
 kw:∀c o,H c>o->L c∉S->H' c>o
 dm:Dm H H'
theorem Lx.at {j q:Lb} {H:Hp} (x:Lx j q H) {c:Addr} {o:HO} (h:H c>o):q c=j c:=by
 let e||e:=x c
 .show e
 .rw[e] at h;cases h
theorem Dm.some {H j:Hp} (D:Dm H j) {c:Addr} {o:HO} (h:H c>o):∃q,j c>q:=by
 cases e:j c with
 |none=>rw[D c e] at h;cases h
 |some q=>show⟨q,rfl⟩
theorem Mv.of {S:!Nat} {q:Lb} {H j:Hp} (s:pC H j):Mv S q q H j:=(λο=>.inl rfl,λο ο h ο=>s _ _ h,λο h=>xD s h)
theorem Lx.trans {D F J:Lb} {H q:Hp} (a:Lx D F H) (O:Dm H q) (b:Lx F J q):Lx D J H:=λc=>by
 let e||e:=a c
 .let j||j:=b c
  .show .inl (j.trans e)
  .show .inr (O c j)
 .show .inr e
theorem Mv.trans {S:!Nat} {D F J:Lb} {H j q:Hp} (a:Mv S D F H j) (b:Mv S F J j q):Mv S D J H q:=
 (a.lx.trans a.dm b.lx,λc o h n=>b.kw c o (a.kw c o h n) (by rw[a.lx.at h];show n),λc h=>a.dm c (b.dm c h))
theorem Mv.sub {S F:!Nat} {q D:Lb} {H j:Hp} (a:Mv S q D H j) (h:∀k∈S,k∈F):Mv F q D H j:=(a.lx,λc o J n=>a.kw c o J λO=>n (h _ O),a.dm)
theorem Mv.new {S:!Nat} {q:Lb} {H:Hp} {p:Addr} {k:Nat} {o:HO} (h:H p=none):Mv S q (lab q p k) H (upd H p o):=
 (λc=>by
  by_cases e:c=p
  .rw[e];show .inr h
  .show .inl (qH e),λc D j ο=>by rw[sC (mE j h)];show j,λc j=>xD (gE vD h) j)
theorem Mv.set {S:!Nat} {q:Lb} {H:Hp} {a:Addr} {us us':!V} (h:H a>(.lst us)) (D:q a∈S):Mv S q q H (upd H a (.lst us')):=
 (λο=>.inl rfl,λc o j n=>by rw[sC (λe=>n (by rw[e];show D))];show j,λc j=>by
  by_cases e:c=a
  .rw[e,HC] at j;cases j
  .rw[sC e] at j;show j)
theorem Lv.same {q:Lb} {H j:Hp} (h:Lv q H) (s:pC H j):Lv q j:=λc D=>let ⟨us,e⟩:=h c D;⟨us,s _ _ e⟩
theorem Lv.new {j:Lb} {H:Hp} {p:Addr} {k:Nat} {us:!V} (l:Lv j H) (h:H p=none):Lv (lab j p k) (upd H p (.lst us)):=λc q=>by
 by_cases e:c=p
 .rw[e,HC];show⟨_,rfl⟩
 .rw[qH e] at q;rw[sC e];show l c q
theorem Lv.set {j:Lb} {H:Hp} {a:Addr} {us':!V} (l:Lv j H):Lv j (upd H a (.lst us')):=λc q=>by
 by_cases e:c=a
 .rw[e,HC];show⟨_,rfl⟩
 .rw[sC e];show l c q
structure Zv (S:!Nat) (L L':Lb) (H H':Hp):Prop where
 lx:Lx L L' H
 kz:∀c o,H c>o->(TF o\/(L c≠0/\L c∉S))->H' c>o
 dm:Dm H H'
theorem Zv.of {S:!Nat} {q:Lb} {H j:Hp} (s:pC H j):Zv S q q H j:=(λο=>.inl rfl,λο ο h ο=>s _ _ h,λο h=>xD s h)
theorem Mv.zv {S:!Nat} {j D:Lb} {H q:Hp} (a:Mv S j D H q) (l:Lv j H) (J:0∉S):Zv S j D H q:=(a.lx,λc o F n=>a.kw c o F (by
 let n||n:=n
 .rw[l.zero F (gK n)];show J
 .show n.2),a.dm)
theorem Zv.sub {S F:!Nat} {q D:Lb} {H j:Hp} (a:Zv S q D H j) (h:∀k∈S,k∈F):Zv F q D H j:=(a.lx,λc o J n=>a.kz c o J (n.imp id λn=>⟨n.1,λO=>n.2 (h _ O)⟩),a.dm)
theorem Zv.tup {S:!Nat} {q D:Lb} {H j:Hp} (a:Zv S q D H j) {c:Addr} {us:!V} (h:H c>(.tup us)):j c>(.tup us):=a.kz _ _ h (.inl LL)
theorem Zv.lst {S:!Nat} {q D:Lb} {H j:Hp} (a:Zv S q D H j) {c:Addr} {us:!V} {k:Nat} (h:H c>(.lst us)) (F:q c=k) (J:k≠0) (O:k∉S):j c>(.lst us)/\D c=k:=⟨a.kz _ _ h (.inr (by rw[F];show⟨J,O⟩)),by rw[a.lx.at h];show F⟩
theorem Zv.ks {C P S:Addr} {J:Ss} {s s':St} {F:Lb} {H D:Hp} (U:xC C P S H J s) (a0:xC C P S D J s') (k:Kd J H D) (V:∀c∈J.four,F c=0) (l:Lv F H) (dm:Dm H D):Zv [] F F H D:=(λο=>.inl rfl,λc o q n=>(by
 let(Z,O):=U.me;show k c o q (λe=>?_) (λe=>?_) (λa1 e=>?_)
 .let n||n:=n
  .rw[e,O] at q;let(W,h||(p,h)):=n<;>(rw[<-bA q] at h;cases h)
  .let(us,j):=l c n.1;rw[e,O] at j;cases j
 .let n||n:=n
  .let(us,j):=U.fours c e;rw[q] at j;show gK n us (bA j)
  .show n.1 (V c e)
 .let n||n:=n
  .let(W,h||(p,h)):=n<;>(rw[e] at h;cases h)
  .let(us,j):=l c n.1;rw[q,e] at j;cases j),dm)
theorem lT {S:Addr} {H j:Hp} {vs:!V} {rows:!(Option Sh)} (h:RD S H vs rows) (k:∀v r,r∈rows->bD S H v r->bD S j v r):RD S j vs rows:=by
 induction h with
 |nil=>show .nil
 |@cons x y _ _ h t ih=>show .cons (k _ _ (wA ..) h) (ih λv r q=>k v r (kA _ q))
theorem xC.mv {C P S:Addr} {j:Ss} {s:St} {D a7:Lb} {N:!Nat} {H F:Hp} (h:xC C P S H j s) (m:Mv N D a7 H F) (l:Lv D H) (a3:0∉N) (Z:∀c∈j.four,D c=0) (a6:∀r,some r∈s.fr\/some r∈s.sr->D r.bx=0):xC C P S F j s:=by
 let(a9,a0):=h.me;let(aa,aq,ac,ad,ae,af,ag):=id h.fr;let(ab,ar,ah,ai,aj,ak,al):=id h.sl;let U:∀{c o},H c>o->(∀us,o≠.lst us)->F c>o:=λW a2=>m.kw _ _ W (by rw[l.zero W a2];show a3);let O:∀{c o},H c>o->D c=0->F c>o:=λW a2=>m.kw _ _ W (by rw[a2];show a3);let ks:∀{v:V} {r:Option Sh},(∀q,r>q->D q.bx=0)->bD S H v r->bD S F v r:=λ{v r} a1 a4=>by
  cases r with
  |none=>show a4
  |some r=>
   let(a,(a8,a0),am,ao):=a4;show(a,⟨a8,U a0 λο j=>nomatch j⟩,O am (a1 r rfl),U ao λο j=>nomatch j)
 let a5:∀{vs:!V} {rows:!(Option Sh)},RD S H vs rows->(∀r,some r∈rows->D r.bx=0)->RD S F vs rows:=λap a1=>lT ap λv r J h=>ks (λq e=>a1 q (by rw[<-e];show J)) h;show(⟨a9,U a0 λο j=>nomatch j⟩,(aa,aq,U ac (λο j=>nomatch j),O ad (Z _ (SG (f:=true))),a5 ae (λr J=>a6 r (.inl J)),O af (Z _ (RH (f:=true))),ag),(ab,ar,U ah (λο j=>nomatch j),O ai (Z _ (SG (f:=false))),a5 aj (λr J=>a6 r (.inr J)),O ak (Z _ (RH (f:=false))),al),h.n4,h.bx,h.len,h.hh)
theorem Ks.dm {C P S:Addr} {j:Ss} {s s':St} {H G:Hp} (k:Ks j H G) (h:xC C P S H j s) (h':xC C P S G j s'):Dm H G:=λο q=>k.was h h' q
def RF (H:Hp) (L:Lb) (v:V):Option Sh->Option Nat->Prop
 |none,_=>v=.non
 |some r,o=>v=.ref r.sh/\H r.sh>(.lst [.ref r.bx,.ref r.hd,oV o])/\H r.bx>(.lst (r.b.map V.int))/\vF H r.hd r.ks/\L r.sh=2/\L r.bx=3/\L r.hd=4
def RS (H:Hp) (L:Lb) (B:Nat->!Int) (v:V):Option Sh->Option Nat->Prop
 |some r,_=>RF H L v (some r) none
 |none,none=>v=.non
 |none,some i=>∃a ba ha,v=.ref a/\H a>(.lst [.ref ba,.ref ha,.int (i:Int)])/\H ba>(.lst ((B i).map V.int))/\H ha>(.lst [])/\L a=2/\L ba=3/\L ha=4
theorem vF.to {H j:Hp} {l:Addr} {ks:!(!Key)} (h:vF H l ks) (k:∀us,H l>(.lst us)->j l>(.lst us)) (D:∀c us,H c>(.tup us)->j c>(.tup us)):vF j l ks:=let ⟨us,h1,h2⟩:=h;(us,k _ h1,Paired.mapP h2 λ_ _ ⟨a,e,q⟩=>(a,e,D _ _ q))
structure Kr (L L':Lb) (H H':Hp):Prop where
 kt:∀c us,H c>(.tup us)->H' c>(.tup us)
 k3:∀c us,H c>(.lst us)->L c=3\/L c=4->H' c>(.lst us)
 kl:∀c,L c≠0->L' c=L c
theorem RF.kr {H H':Hp} {L L':Lb} {v:V} (k:Kr L L' H H'):∀{r:Option Sh} {o:Option Nat},RF H L v r o->(∀q,r>q->H' q.sh=H q.sh)->RF H' L' v r o
 |none,_,h,_=>h
 |some r,o,⟨e,h1,h2,h3,l1,l2,l3⟩,hr=>(e,(hr r rfl).trans h1,k.k3 _ _ h2 (.inl l2),h3.to (λus hu=>k.k3 _ _ hu (.inr l3)) k.kt,by rw[k.kl _ (by rw[l1];decide)];show l1,by rw[k.kl _ (by rw[l2];decide)];show l2,by rw[k.kl _ (by rw[l3];decide)];show l3)
theorem RS.kr {H H':Hp} {L L':Lb} {B:Nat->!Int} {v:V} (k:Kr L L' H H'):∀{r:Option Sh} {o:Option Nat},RS H L B v r o->(∀a,v=.ref a->H' a=H a)->RS H' L' B v r o
 |some r,_,h,hr=>RF.kr (r:=some r) (o:=none) k (show RF H L v (some r) none from h) λq e=>by cases e;show hr _ (show RF H L v (some r) none from h).1
 |none,none,h,_=>h
 |none,some i,⟨a,ba,ha,e,h1,h2,h3,l1,l2,l3⟩,hr=>(a,ba,ha,e,(hr a e).trans h1,k.k3 _ _ h2 (.inl l2),k.k3 _ _ h3 (.inr l3),by rw[k.kl _ (by rw[l1];decide)];show l1,by rw[k.kl _ (by rw[l2];decide)];show l2,by rw[k.kl _ (by rw[l3];decide)];show l3)
structure Lq (H:Hp) (L:Lb) (pl fl sl:Addr) (h:Nat) (fr sr:!(Option Sh)) (tf ts:!(Option Nat)) (B:Nat->!Int):Prop where
 hp:H pl>(.lst [.ref fl,.ref sl,.int (h:Int)])
 hf:∃us,H fl>(.lst us)/\us.length=fr.length/\∀(i:Nat) r o,fr[i]?>r->tf[i]?>o->∃v,us[i]?>v/\RF H L v r o
 hs:∃us,H sl>(.lst us)/\us.length=sr.length/\∀(j:Nat) r o,sr[j]?>r->ts[j]?>o->∃v,us[j]?>v/\RS H L B v r o
 l1:L pl=1/\L fl=1/\L sl=1
 ne:pl≠fl/\pl≠sl/\fl≠sl
 ln:tf.length=fr.length/\ts.length=sr.length
 lv:Lv L H
section
variable {H H':Hp} {L L':Lb} {pl fl sl:Addr} {h:Nat} {fr sr:!(Option Sh)} {tf ts:!(Option Nat)} {B:Nat->!Int}
theorem RS.lab {v:V} {r:Option Sh} {o:Option Nat} (h:RS H L B v r o) {a:Addr} (e:v=.ref a):L a=2:=by
 cases r with
 |some r=>let(j,_,_,_,q,_):=h;rw[e] at j;cases j;show q
 |none=>
  cases o with
  |none=>rw[e] at h;cases h
  |some i=>let(b,D,F,j,_,_,_,q,_):=h;rw[e] at j;cases j;show q
theorem Lq.zs {N:!Nat} (q:Lq H L pl fl sl h fr sr tf ts B) (F:Zv N L L' H H') (a4:∀k∈N,4 < k) (a6:Lv L' H'):Lq H' L' pl fl sl h fr sr tf ts B:=by
 let a5:∀c us,H c>(.lst us)->L c≠0->L c<=4->H' c>(.lst us):=λc us j J a8=>F.kz _ _ j (.inr ⟨J,λF=>by have:=a4 _ F;omega⟩);let D:∀c us,H c>(.lst us)->(L c=1\/L c=2\/L c=3\/L c=4)->H' c>(.lst us):=λc us j J=>a5 c us j ⋯ ⋯;let kr:Kr L L' H H':=(λc us j=>F.tup j,λc us j J=>D c us j ⋯,λc j=>q.lv.lx F.lx j)
 let k2:∀c,L c=2->H' c=H c:=λc j=>by
  let(us,e):=q.lv c (by rw[j];decide);rw[e];show D _ _ e ⋯
 let(us,a1,a2,a3):=q.hf;let(a7,W,Z,a0):=q.hs;let(O,U,l3):=q.l1;let V:∀{c},L c=1->L c≠0:=λe=>by rw[e];decide
 show(D _ _ q.hp (.inl O),(us,D _ _ a1 (.inl U),a2,λi r o a b=>let ⟨v,e,f⟩:=a3 i r o a b;(v,e,f.kr kr λs e=>by subst e;show k2 _ f.2.2.2.2.1)),(a7,D _ _ W (.inl l3),Z,λi r o a b=>let ⟨v,e,f⟩:=a0 i r o a b;(v,e,f.kr kr λa e=>k2 _ (f.lab e))),((kr.kl _ (V O)).trans O,(kr.kl _ (V U)).trans U,(kr.kl _ (V l3)).trans l3),q.ne,q.ln,a6)
theorem Lq.zv (q:Lq H L pl fl sl h fr sr tf ts B) (D:Zv [] L L' H H') (j:Lv L' H'):Lq H' L' pl fl sl h fr sr tf ts B:=q.zs D (λο h=>by cases h) j
theorem Lq.same (q:Lq H L pl fl sl h fr sr tf ts B) (s:pC H H'):Lq H' L pl fl sl h fr sr tf ts B:=q.zv (Zv.of s) (q.lv.same s)
theorem Lq.new (q:Lq H L pl fl sl h fr sr tf ts B) {p:Addr} {k:Nat} {us:!V} (j:H p=none):Lq (upd H p (.lst us)) (lab L p k) pl fl sl h fr sr tf ts B:=q.zv ((Mv.new j).zv q.lv (by simp)) (q.lv.new j)
theorem Kr.one {a:Addr} {us us':!V} (q:H a>(.lst us)) (la:L a=1):Kr L L H (upd H a (.lst us')):=(λc F j=>by rw[sC (HD j q nofun)];show j,λc F j D=>by rw[sC (λe=>by rw[e,la] at D;omega)];show j,λο ο=>rfl)
theorem Lq.hand (q:Lq H L pl fl sl h fr sr tf ts B) {x:Nat}:Lq (upd H pl (.lst [.ref fl,.ref sl,.int (x:Int)])) L pl fl sl x fr sr tf ts B:=by
 let(us,U,V,W):=q.hf;let(a1,F,J,O):=q.hs;let(D,a2,l3):=q.l1;let(Z,a0,a3):=q.ne;let kr:Kr L L H (upd H pl (.lst [.ref fl,.ref sl,.int (x:Int)])):=Kr.one q.hp D;let k2:∀c,L c=2->upd H pl (.lst [.ref fl,.ref sl,.int (x:Int)]) c=H c:=λc j=>sC (λe=>by rw[e,D] at j;cases j);show(HC,(us,by rw[sC (Ne.symm Z)];show U,V,λi r o a b=>let ⟨v,e,f⟩:=W i r o a b;(v,e,f.kr kr λs e=>by subst e;show k2 _ f.2.2.2.2.1)),(a1,by rw[sC (Ne.symm a0)];show F,J,λi r o a b=>let ⟨v,e,f⟩:=O i r o a b;(v,e,f.kr kr λa e=>k2 _ (f.lab e))),q.l1,q.ne,q.ln,q.lv.set)
set_option tactic.hygienic true in
theorem Lq.slot (q:Lq H L pl fl sl h fr sr tf ts B) {us:!V} (hu:H sl>(.lst us)) {j:Nat} {v:V} {r:Option Sh} {o:Option Nat} (hv:RS H L B v r o):Lq (upd H sl (.lst (us.set j v))) L pl fl sl h fr (sr.set j r) tf (ts.set j o) B:=by
 let(us0,h1,h2,h3):=q.hf;let(ws,g1,g2,g3):=q.hs;obtain rfl:us=ws:=by rw[hu] at g1;cases g1;rfl
 let(l1,l2,l3):=q.l1;let(n1,n2,n3):=q.ne;let kr:Kr L L H (upd H sl (.lst (us.set j v))):=Kr.one hu l3;let k2:∀c,L c=2->upd H sl (.lst (us.set j v)) c=H c:=λc hc=>sC (λe=>by rw[e,l3] at hc;cases hc);show(by rw[sC n2];show q.hp,(us0,by rw[sC n3];show h1,h2,λi r o a b=>let ⟨v,e,f⟩:=h3 i r o a b;(v,e,f.kr kr λs e=>by subst e;show k2 _ f.2.2.2.2.1)),(_,HC,by rw[rA,rA];show g2,λi r' o' a b=>?_),q.l1,q.ne,by rw[rA,rA];show q.ln,q.lv.set);rw[oA] at a b;let hln:=q.ln.2;by_cases e:j=i
 .subst e;rw[iA rfl] at a b
  split at a
  .rename_i hj;rw[iA ⋯] at b;obtain rfl:r=r':=bA a;obtain rfl:o=o':=bA b;show(v,yA ⋯,hv.kr kr λa e=>k2 _ (hv.lab e))
  .cases a
 .rw[gA e] at a b;let(v',e',f):=g3 i r' o' a b;show(v',by rw[oA,gA e];show e',f.kr kr λa e=>k2 _ (f.lab e))
set_option tactic.hygienic true in
theorem Lq.frame (q:Lq H L pl fl sl h fr sr tf ts B) {us:!V} (hu:H fl>(.lst us)) {j:Nat} {v:V} {r:Option Sh} {o:Option Nat} (hv:RF H L v r o):Lq (upd H fl (.lst (us.set j v))) L pl fl sl h (fr.set j r) sr (tf.set j o) ts B:=by
 let(us0,h1,h2,h3):=q.hf;let(ws,g1,g2,g3):=q.hs;obtain rfl:us=us0:=by rw[hu] at h1;cases h1;rfl
 let(l1,l2,l3):=q.l1;let(n1,n2,n3):=q.ne;let kr:Kr L L H (upd H fl (.lst (us.set j v))):=Kr.one hu l2;let k2:∀c,L c=2->upd H fl (.lst (us.set j v)) c=H c:=λc hc=>sC (λe=>by rw[e,l2] at hc;cases hc);show(by rw[sC n1];show q.hp,(_,HC,by rw[rA,rA];show h2,λi r' o' a b=>?_),(ws,by rw[sC (Ne.symm n3)];show g1,g2,λi r o a b=>let ⟨v,e,f⟩:=g3 i r o a b;(v,e,f.kr kr λa e=>k2 _ (f.lab e))),q.l1,q.ne,by rw[rA,rA];show q.ln,q.lv.set);rw[oA] at a b;let hln:=q.ln.1;by_cases e:j=i
 .subst e;rw[iA rfl] at a b
  split at a
  .rename_i hj;rw[iA ⋯] at b;obtain rfl:r=r':=bA a;obtain rfl:o=o':=bA b;show(v,yA ⋯,hv.kr kr λs e=>by subst e;show k2 _ hv.2.2.2.2.1)
  .cases a
 .rw[gA e] at a b;let(v',e',f):=h3 i r' o' a b;show(v',by rw[oA,gA e];show e',f.kr kr λs e=>by subst e;show k2 _ f.2.2.2.2.1)
theorem Lq.twins (q:Lq H L pl fl sl h fr sr tf ts B) {B':Nat->!Int} (a2:∀(i j:Nat),ts[j]?>(some i)->B' i=B i):Lq H L pl fl sl h fr sr tf ts B':=by
 let(a3,W,Z,a0):=q.hs;show(q.hp,q.hf,(a3,W,Z,λj r o a b=>?_),q.l1,q.ne,q.ln,q.lv);let(v,e,f):=a0 j r o a b;show(v,e,?_);cases r with
 |some r=>show f
 |none=>
  cases o with
  |none=>show f
  |some i=>let(D,F,a1,J,O,U,V):=f;show(D,F,a1,J,O,by rw[a2 i j b];show U,V)
theorem Lq.free (q:Lq H L pl fl sl h fr sr tf ts B) {tf':!(Option Nat)} (J:tf'.length=tf.length) (O:∀(i:Nat) s,fr[i]?>(some s)->tf'[i]?=tf[i]?):Lq H L pl fl sl h fr sr tf' ts B:=by
 let(us,D,F,j):=q.hf;show(q.hp,(us,D,F,λi r o a b=>?_),q.hs,q.l1,q.ne,by rw[J];show q.ln,q.lv);cases r with
 |some s=>rw[O i s a] at b;show j i _ o a b
 |none=>
  let U:=(aA.mp b).1;let(v,e,f):=j i none (tf[i]'⋯) a (cA _);show(v,e,f)
theorem Lq.untw (q:Lq H L pl fl sl h fr sr tf ts B) {i j:Nat} {r:Sh} (a9:fr[i]?>(some r)) (aa:tf[i]?>(some j)) (one:∀a:Nat,tf[a]?>(some j)->a=i) (aj:r.ks≠[]):Lq (upd H r.sh (.lst [.ref r.bx,.ref r.hd,.non])) L pl fl sl h fr sr (tf.set i none) ts B:=by
 let(us,ah,ai,a8):=q.hf;let(a4,ae,af,ag):=q.hs;let(ao,ap,l3):=q.l1;let(v,e,(ab,Z,ad,a5,a1,a6,a7)):=a8 i _ _ a9 aa;let kr:Kr L L H (upd H r.sh (.lst [.ref r.bx,.ref r.hd,.non])):=(λc a4 J=>by rw[sC (HD J Z (λau=>nomatch au))];show J,λc a4 J ak=>by rw[sC (λe=>by rw[e,a1] at ak;omega)];show J,λο ο=>rfl)
 let a2:∀{c o},L c=1->H c>o->upd H r.sh (.lst [.ref r.bx,.ref r.hd,.non]) c>o:=λJ al=>by rw[sC (λe=>by rw[e,a1] at J;cases J)];show al
 show(a2 ao q.hp,(us,a2 ap ah,ai,λa s o O F=>?_),(a4,a2 l3 ae,af,λa s o O F=>?_),q.l1,q.ne,by rw[rA];show q.ln,q.lv.set)
 .rw[oA] at F;by_cases c:i=a
  .subst c;rw[iA rfl,iA (aA.mp aa).1] at F;obtain rfl:none=o:=bA F;rw[a9] at O;obtain rfl:some r=s:=bA O;show(v,e,ab,HC,kr.k3 _ _ ad (.inl a6),a5.to (λus am=>kr.k3 _ _ am (.inr a7)) kr.kt,a1,a6,a7)
  .rw[gA c] at F;let(a3,a0,f):=a8 a s o O F;show(a3,a0,f.kr kr λx ex=>sC λW=>?_);subst ex;let(_,D,_):=f;rw[W,Z] at D;simp only[vB,HO.lst.injEq,lB,and_true] at D;have:o>j:=by
    have:=D.2.2;cases o with
    |none=>cases this
    |some k=>have:(j:Int)=k:=V.int.inj this;rw[show k=j by omega]
   rw[this] at F;show c (one a F).symm
 .let(a3,a0,f):=ag a s o O F;show(a3,a0,f.kr kr λx ex=>sC λW=>?_);cases s with
  |some s=>
   let(U,D,_):=f;rw[ex] at U;cases U;rw[W,Z] at D;simp only[vB,HO.lst.injEq,lB,and_true] at D;cases D.2.2
  |none=>
   cases o with
   |none=>rw[ex] at f;cases f
   |some k=>
    let(b,av,O,U,D,aw,ar,_):=f;rw[ex] at U;cases U;rw[W,Z] at D;simp only[vB,HO.lst.injEq,lB,and_true,V.ref.injEq] at D;let(aq,z1,z2):=a5;rw[D.2.1,ar] at z1;let ac:aq=[]:=by cases z1;rfl
    rw[ac] at z2;generalize r.ks=ks at *;cases z2;show aj rfl
end
structure Lp (H:Hp) (L:Lb) (pl fl sl:Addr) (p:St):Prop where
 q:Lq H L pl fl sl p.h p.fr p.sr p.tf p.ts (pE p.fr)
 tw:Tw p
theorem Lv.zv {H q:Hp} {j:Lb} (l:Lv j H) (F:Zv [] j j H q):Lv j q:=λc D=>let ⟨us,h⟩:=l c D;⟨us,F.kz _ _ h (.inr ⟨D,by simp⟩)⟩
theorem Lp.zv {H j:Hp} {D q:Lb} {pl F J:Addr} {p:St} (h:Lp H D pl F J p) (U:Zv [] D q H j) (O:Lv q j):Lp j q pl F J p:=⟨h.q.zv U O,h.tw⟩
theorem Lp.same {H j:Hp} {q:Lb} {pl D F:Addr} {p:St} (h:Lp H q pl D F p) (s:pC H j):Lp j q pl D F p:=⟨h.q.same s,h.tw⟩
theorem Lp.new {H:Hp} {j:Lb} {pl q D:Addr} {p:St} (h:Lp H j pl q D p) {a:Addr} {k:Nat} {us:!V} (F:H a=none):Lp (upd H a (.lst us)) (lab j a k) pl q D p:=⟨h.q.new F,h.tw⟩
theorem Mv.lab {S:!Nat} {q:Lb} {H G:Hp} {u:Addr} {k:Nat} (s:pC H G) (D:H u=none):Mv S q (Pf.lab q u k) H G:=(λc=>by
 by_cases e:c=u
 .rw[e];show .inr D
 .show .inl (qH e),λc o j ο=>s _ _ j,λc j=>xD s j)
theorem Lv.lab {j:Lb} {H G:Hp} {u:Addr} {k:Nat} {us:!V} (l:Lv j H) (s:pC H G) (g:G u>(.lst us)):Lv (Pf.lab j u k) G:=λc q=>by
 by_cases e:c=u
 .rw[e];show⟨_,g⟩
 .rw[qH e] at q;let(us,h):=l c q;show⟨us,s _ _ h⟩
theorem Lp.lab {H G:Hp} {j:Lb} {pl q D:Addr} {p:St} {u:Addr} {k:Nat} {us:!V} (h:Lp H j pl q D p) (s:pC H G) (F:H u=none) (g:G u>(.lst us)):Lp G (Pf.lab j u k) pl q D p:=h.zv ((Mv.lab s F).zv h.q.lv (by simp)) (h.q.lv.lab s g)
def vI (p:St) (c:Option Nat) (ms:!Bool) (p1:St) (i:Nat) (ps:!Int) (out:Option (Nat×Sh)):Prop:=
 (tE p.fr p.tf>i/\p1=p/\ps=[]/\out=none)\/
 (tE p.fr p.tf=none/\∃(q:Sh) (j:Nat) (a:Addr),DI ms p.h i ps/\p.fr[i]?>(some q)/\nD p i c>j/\j < p.sr.length/\p1=ZD {p with h:=(i+1) % p.fr.length} i j {q with sh:=a}/\out>(j,q))
def jF (H:Hp) (L:Lb) (v:V):Option (Nat×Sh)->Prop
 |none=>v=.non
 |some (j,q)=>∃o l,v=.ref o/\H o>(.tup [.int (j:Int),.ref l])/\vF H l (zD q.ks)/\L l=5
def EM (g c:Option Nat):Option Nat:=match g with
 |some j=>some j
 |none=>c
def Sk (p:St) (G G':Hp):Prop:=∀(j:Nat) (w:Sh),p.sr[j]?>(some w)->G' w.sh=G w.sh
theorem Lp.slot {G:Hp} {D:Lb} {pl O J:Addr} {p:St} (h:Lp G D pl O J p) {j:Nat} {w:Sh} (F:p.sr[j]?>(some w)):∃q,G J>(.lst q)/\q.length=p.sr.length/\q[j]?=↑w.sh/\RF G D (.ref w.sh) (some w) none:=by
 let(q,U,V,W):=h.q.hs;let a0:=(aA.mp F).1;let a1:=h.q.ln.2;let(v,e,f):=W j _ _ F (cA ⋯);let(rfl,Z):=id f;show(q,U,V,e,f)
theorem Sk.of {G q:Hp} {F:Lb} {pl J U:Addr} {p:St} (h:Lp G F pl J U p) (s:pC G q):Sk p G q:=λj w O=>by
 let(_,_,_,_,(_,D,_)):=h.slot O;rw[D];show s _ _ D
theorem Sk.same {G q D:Hp} {J:Lb} {pl U V:Addr} {p:St} (k:Sk p G q) (h:Lp G J pl U V p) (s:pC q D):Sk p G D:=λj w F=>by
 let(_,_,_,_,(_,O,_)):=h.slot F;have:=k j w F;rw[O] at this ⊢;show s _ _ this
theorem Sk.upd {G q:Hp} {D:Lb} {pl O V a:Addr} {o:HO} {p:St} (k:Sk p G q) (h:Lp G D pl O V p) (U:D a≠2):Sk p G (upd q a o):=λj w F=>by
 let(_,_,_,_,(_,_,_,_,J,_)):=h.slot F;rw[sC (λe=>U (by rw[<-e];show J))];show k j w F
structure Lg (L5 L:Lb) (G:Hp) (u pl fl sl:Addr) (p:St) (i:Nat) (ps:!Int) (tf':!(Option Nat)) (G':Hp):Prop where
 q:Lq G' L5 pl fl sl ((i+1) % p.fr.length) p.fr p.sr tf' p.ts (pE p.fr)
 mv:Mv [1,2] L L5 G G'
 u5:G' u>(.lst (ps.map V.int))
 tl:tf'.length=p.tf.length
 sk:Sk p G G'
theorem ML {l:!(Option Nat)} {j k:Nat} (q:l[k]?>(some j)) (one:∀a:Nat,l[a]?>(some j)->a=k):l.set k none=l.map (cl j):=by
 show List.ext_getElem? λa=>?_;rw[oA,FA];by_cases c:k=a
 .subst c;rw[iA rfl,iA (aA.mp q).1,q];change some none>(cl j (some j));unfold cl;rw[iA rfl]
 .rw[gA c];cases D:l[a]? with
  |none=>rfl
  |some o=>
   change some o>(cl j o);unfold cl;rw[gA (λF=>c (one a (by rw[D,F])).symm)]
theorem r6 {l:!(Option Nat)} {j k:Nat} (q:l[k]?>(some j)) (F:∀b < k,l[b]?>none):cG l>j:=by
 induction l generalizing k with
 |nil=>simp at q
 |cons x r J=>
  cases k with
  |zero=>simp at q;subst q;rfl
  |succ k=>
   let D:=F 0 ⋯;simp at D;subst D;show J (k:=k) (by simpa using q) λb O=>by simpa using F (b+1) ⋯
theorem NL {l:!(Option Nat)} (j:∀b < l.length,l[b]?>none):cG l=none:=List.findSome?_eq_none_iff.mpr λx q=>by
 let(b,h):=IA.mp q;have:=j b (aA.mp h).1;rw[h] at this;show bA this
def sp_lout:Sp:=λvs H Q ο=>∃(pl fl sl m:Addr) (L:Lb) (p:St) (c:Option Nat) (ms:!Bool),vs=[.ref pl,.ref m,oV c]/\Lp H L pl fl sl p/\H m>(.lst (ms.map V.bl))/\L m∉[1,2]/\ms.length=p.fr.length/\p.h < p.fr.length/\p.fr.length<=64/\p.sr.length<=64/\(∀r,some r∈p.fr->LH r.ks/\r.ks≠[])/\(tE p.fr p.tf=none->∀i,∃j,nD p i c>j/\j < p.sr.length)/\
 ∀H' L' p1 i ps out t e v3,vI p c ms p1 i ps out->Lp H' L' pl fl sl p1->Mv [1,2] L L' H H'->H' t>(.tup [.int (i:Int),.ref e,v3])->H' e>(.lst (ps.map V.int))->jF H' L' v3 out->L' e=5->Sk p H H'->Q (.ref t) H'
theorem wY (T:LD K mg A):oE P w K mg base "_law_out" 1 ["_law_plain","_law_marks","_law_slot"] [] sp_lout:=by
 show T.Gi.have IH (λvs H Q E a0=>?_) ?_
 .let(pl,O,W,m,a5,p,c,ms,rfl,_):=a0;rfl
 .intro f ez er fb s H vs Q E f7 a0;let(pl,O,W,m,a5,p,c,ms,rfl,J,cv,f3,dy,hh,f1,f2,cx,d1,q):=a0;let(us,Z,ag,a9):=J.q.hf;let(ar,af,b6,b5):=J.q.hs;let f4:=J.q.ln;show(_,(AD (mD (i:=3) IH.nd rfl (Or.inl rfl) (BC LC (lC 0) yC (λο ο=>rfl)))
   (AD (mD (i:=4) IH.nd rfl (Or.inl rfl) (BC LC (lC 0) yC (λο ο=>rfl)))
   (AD (DG RA rfl (iG rfl T.Aq (nC (MD BE rfl T.Aj PySem.boot_len (nC (lC 3) wC)) wC)) (jE (i:=5) IH.nd rfl (Or.inl rfl)) (FC (JD (CD yG (BC LC (lC 3) (lC 5) (λο ο=>rfl)) BD (rC _)) (FC (sD (aF (nC (lC 5) (nC (cF wC) (nC BD wC)))))) KD)))
   (OC (mD (i:=6) IH.nd rfl (Or.inl rfl) (cF wC))
   (OC (mD (i:=7) IH.nd rfl (Or.inl rfl) (BC LC (lC 0) yC (λο ο=>rfl)))
   (AD (HW RA (PW.pt (uH (gG (BC LC (lC 1) (lC 7) (λο ο=>rfl))) (tH (CD jP (MD BE rfl T.Aj PySem.boot_len (nC (lC 6) wC)) (MD BE rfl T.Aj PySem.boot_len (nC (lC 3) wC)) (rC _))))) (OC (kF (lH PySem.F.plainAttrs_list PySem.F.slot_list_append PySem.F.type_list_append BH (lC 6) (nC (lC 7) wC)))
   (FC (mD (i:=7) IH.nd rfl (Or.inl rfl) (KC FE (KC nF (lC 7) yC) (MD BE rfl T.Aj PySem.boot_len (nC (lC 3) wC)))))))
   (AD (mF (KC FE (KC nF (lC 7) yC) (MD BE rfl T.Aj PySem.boot_len (nC (lC 3) wC))) (lF (lC 0) yC oF))
   (AD (mD (i:=8) IH.nd rfl (Or.inl rfl) (BC LC (BC LC (lC 3) (lC 7) (λο ο=>rfl)) yC (λο ο=>rfl)))
   (AD (DG RA rfl (iG rfl T.Aq (nC (MD BE rfl T.Aj PySem.boot_len (nC (lC 4) wC)) wC)) (jE (i:=5) IH.nd rfl (Or.inl rfl)) (FC (JD (PW.pt (uH (CD yG (lC 8) BD (rC _)) (tH (CD yG (BC LC (lC 4) (lC 5) (λο ο=>rfl)) BD (rC _))))) (FC (mD (i:=8) IH.nd rfl (Or.inl rfl) (lC 5))) KD)))
   (AD (DG RA rfl (iG rfl T.Aq (nC (MD BE rfl T.Aj PySem.boot_len (nC (lC 3) wC)) wC)) (jE (i:=5) IH.nd rfl (Or.inl rfl)) (FC (JD (PW.pt (uH (CD yG (lC 8) BD (rC _)) (tH (CD wH (BC LC (BC LC (lC 3) (lC 5) (λο ο=>rfl)) yC (λο ο=>rfl)) BD (rC _))))) (OC (mD (i:=8) IH.nd rfl (Or.inl rfl) (BC LC (BC LC (lC 3) (lC 5) (λο ο=>rfl)) yC (λο ο=>rfl)))
   (FC (mF BD (lF (BC LC (lC 3) (lC 5) (λο ο=>rfl)) yC oF)))) KD)))
   (AD (JD (CD yG (lC 8) BD (rC _)) (FC (mD (i:=8) IH.nd rfl (Or.inl rfl) (lC 2))) KD)
   (AD (mF (cF (nC (BC LC (BC LC (lC 3) (lC 7) (λο ο=>rfl)) yC (λο ο=>rfl)) (nC (BC LC (BC LC (lC 3) (lC 7) (λο ο=>rfl)) yC (λο ο=>rfl)) (nC BD wC)))) (lF (lC 4) (lC 8) oF))
   (AD (mF BD (lF (lC 3) (lC 7) oF))
   (FC (sD (aF (nC (lC 7) (nC (lC 6) (nC (aF (nC (lC 8) (nC (MD (lX rfl) rfl T.Cz PyProof.Rows.boot_sorted (nC (BC LC (BC LC (lC 4) (lC 8) (λο ο=>rfl)) yC (λο ο=>rfl)) wC)) wC))) wC))))))))))))))))))),?_)
  rfl';show(λD G=>D=[↑pl,↑m,some (oV c),↑O,none,none,none,none,none]/\H=G,?_,λff et=>?_)
  .rfl';show(_,uC.of J.q.hp,_,CC (j:=0) rfl,rfl)
  rintro⟨rfl,rfl⟩;show(λD G=>D=[↑pl,↑m,some (oV c),↑O,↑W,none,none,none,none]/\H=G,?_,λfk ev=>?_)
  .rfl';show(_,uC.of J.q.hp,_,CC (j:=1) rfl,rfl)
  rintro⟨rfl,rfl⟩;show(λD G=>∃v,D=[↑pl,↑m,some (oV c),↑O,↑W,v,none,none,none]/\G=H/\∀k < p.fr.length,∃r,p.fr[k]?>(some r),?_,λfm G=>?_)
  .rfl';show(_,.inl (_,uC.of Z,rfl),⋯,⋯,CJ (λi D G=>∃v,D=[↑pl,↑m,some (oV c),↑O,↑W,v,none,none,none]/\G=H/\∀k < i,∃r,p.fr[k]?>(some r)) (_,rfl,rfl,λk a7=>absurd a7 (jC _)) (λi D G b4=>?_) (λD G=>?_))
   .rintro⟨v,rfl,rfl,ae⟩;let c4:i < p.fr.length:=⋯;obtain⟨r,bj⟩:∃r,p.fr[i]?>r:=⟨_,cA c4⟩
    obtain⟨o,bi⟩:∃o,p.tf[i]?>o:=⟨_,cA ⋯⟩
    let(v,a4,al):=a9 i r o bj bi;rfl';show(us,uC.of Z,v,by rw[pB];show CC a4,?_);cases r with
    |none=>
     obtain rfl:v=.non:=al;rw[iA rfl];intro e c3 t az;let di:o=none:=by
      cases o with
      |none=>rfl
      |some j=>let(r,cz):=J.tw.full i j bi;rw[bj] at cz;cases cz
     rw[di] at bi;let s1:=(jD (o:=.lst []) c3).1;let b9:=(jD (o:=.tup [V.int (0+(i:Int)),V.ref e,V.non]) az).1;let bb:=(jD (o:=.tup [V.int (0+(i:Int)),V.ref e,V.non]) az).2;rw[pB] at b9 bb ⊢;show q _ (lab a5 e 5) p i [] none t e .non (.inl (WX bj bi λk a7=>.inl (ae k a7),rfl,rfl,rfl)) ((J.new c3).same b9) ((Mv.new c3).trans (Mv.of b9)) bb (b9 _ _ HC) rfl NH ((Sk.of J s1).same J b9)
    |some r=>
     let(rfl,_):=al;rw[gA (λa0=>nomatch a0)];intro k a7;let h||rfl:=(by omega:k < i\/k=i)
     .show ae k h
     .show⟨r,bj⟩
   rintro⟨a6,rfl,rfl,ae⟩;show(_,rfl,rfl,λk a7=>ae k ⋯)
  rintro⟨a6,rfl,rfl,ae⟩;let cw:tE p.fr p.tf=none:=XX λk a7=>.inl (ae k ⋯);let e4:=d1 cw;clear d1;rfl';intro u b0;let bu:=(jD (o:=.lst []) b0).1;let av:=(jD (o:=.lst []) b0).2;show(_,uC.of (bu _ _ J.q.hp),_,CC (j:=2) rfl,?_);let cy:(0:Int) < ms.length:=⋯;show(λD F=>∃i ah,D=[↑pl,↑m,some (oV c),↑O,↑W,a6,↑u,some (.int ((i:Nat):Int)),none]/\pC G F/\DI ms p.h i ah/\i < p.fr.length/\F u>(.lst (ah.map V.int)),?_,λfn ch=>?_)
  .let fin:∀(j:Nat) (aa:Hp),j<=ms.length->(∀i < j,ms.getD (((p.h:Int)+i) % (ms.length:Int)).toNat false=true)->(j=ms.length\/ms.getD (((p.h:Int)+j) % (ms.length:Int)).toNat false=false)->pC G aa->aa u>(.lst ((rg ms.length p.h j).map V.int))->∃i:Nat,((p.h:Int)+j) % (ms.length:Int)=(i:Int)/\pC G aa/\∃x,DI ms p.h i x/\i < p.fr.length/\aa u>(.lst (x.map V.int)):=λj aa ao ac U s1 aq=>by
    let f0:=qB ((p.h:Int)+j) (show (ms.length:Int)≠0 by omega);let ax:=iB ((p.h:Int)+j) cy;show((((p.h:Int)+j) % (ms.length:Int)).toNat,⋯,s1,rg ms.length p.h j,(j,ao,ac,U,⋯,rfl),⋯,aq)
   rfl';show IW (λd7 D aa=>∃j:Nat,d7=ms.length - j/\j<=ms.length/\D=[↑pl,↑m,some (oV c),↑O,↑W,a6,↑u,some (.int (((p.h:Int)+j) % (ms.length:Int))),none]/\pC G aa/\aa u>(.lst ((rg ms.length p.h j).map V.int))/\(∀i < j,ms.getD (((p.h:Int)+i) % (ms.length:Int)).toNat false=true)) ms.length (0,rfl,LB _,?_,bu,av,λi b4=>absurd b4 (jC _)) (λd7 D aa=>?_)
   .rw[show ((p.h:Int)+((0:Nat):Int)) % (ms.length:Int)=p.h by rw[Int.emod_eq_of_lt]<;>omega]
   .rintro⟨j,rfl,ao,rfl,b2,aq,c2⟩;rfl';let f5:=qB ((p.h:Int)+j) (show (ms.length:Int)≠0 by omega);let f6:=iB ((p.h:Int)+j) cy;let dn:WF (ms.map V.bl) (((p.h:Int)+j) % (ms.length:Int))>(.bl (ms.getD (((p.h:Int)+j) % (ms.length:Int)).toNat false)):=by
     generalize ((p.h:Int)+j) % (ms.length:Int)=y at *;let e:=CC (xs:=ms.map V.bl) (j:=y.toNat) (v:=.bl (ms.getD y.toNat false)) (by
      have:y.toNat < ms.length:=⋯;simp[this])
     rw[show ((y.toNat:Nat):Int)=y by omega] at e;show e
    show(_,uC.of (b2 _ _ cv),_,dn,_,rfl,?_);cases U:ms.getD (((p.h:Int)+j) % (ms.length:Int)).toNat false with
    |false=>show iD (fin j aa ao c2 (.inr U) b2 aq)
    |true=>
     show nE (j,.inl (_,uC.of aq,by rw[fA,TN]),us.length,.inl (_,uC.of (b2 _ _ Z),rfl),?_);by_cases ck:(j:Int) < us.length
     .rw[iA ck];show IJ ?_;rfl';show(.inl (rfl,_,uC.of aq),_,aq,by rw[fA,TN];omega,us.length,.inl (_,uC.of ((qF b2 b0) _ _ Z),rfl),⋯,ms.length - (j+1),⋯,j+1,rfl,⋯,?_,qF b2 b0,?_,λi b4=>?_)
      .rw[ag,<-dy,Int.emod_add_emod];congr 1
      .rw[LX,MA];rfl
      .let b4||rfl:=(by omega:i < j\/i=j)
       .show c2 i b4
       .show U
     .rw[gA ck];show fin j aa ao c2 (.inl ⋯) b2 aq
  rintro⟨i,ah,rfl,bq,e5,c4,c9⟩;let am:Lp ch (lab a5 u 5) pl O W p:=J.lab bq b0 c9;let d4:Mv [1,2] a5 (lab a5 u 5) G ch:=Mv.lab bq b0;let bm:lab a5 u 5 u=5:=NH;generalize lab a5 u 5=L5 at *;let ae:∀k < p.fr.length,∃r,p.fr[k]?>(some r):=λk a7=>ae k ⋯;let k5:=Sk.of J bq;clear a9 b5 Z af bq bu av cv;show(λD F=>D=[↑pl,↑m,some (oV c),↑O,↑W,a6,↑u,some (.int ((i:Nat):Int)),none]/\Lp F L5 pl O W {p with h:=(i+1) % p.fr.length}/\Mv [1,2] a5 L5 G F/\F u>(.lst (ah.map V.int))/\Sk p G F,?_,λfo dc=>?_)
  .let(us,Z,ag,a9):=am.q.hf;rfl';let dz:((i:Int)+1) % (us.length:Int)=(((i+1) % p.fr.length:Nat):Int):=by rw[ag,Int.natCast_emod,Int.natCast_add];rfl
   show(us.length,.inl (_,uC.of Z,rfl),⋯,_,am.q.hp,2,HF (by change 2 < 3;decide),?_);rw[dz];let ej:u≠pl:=λe=>by rw[e,am.q.l1.1] at bm;cases bm
   show(⟨am.q.hand,am.tw.hand⟩,d4.trans (Mv.set am.q.hp (by rw[am.q.l1.1];simp)),by rw[sC ej];show c9,k5.upd J (by rw[J.q.l1.1];decide))
  rintro⟨rfl,b3,d5,AI,ec⟩;clear am d4 c9;let(r,bl):=ae i ⋯;obtain⟨o,c7⟩:∃o,p.tf[i]?>o:=⟨_,cA ⋯⟩
  let(b8,f9):=cx r (dA bl);show(λD F=>D=[↑pl,↑m,some (oV c),↑O,↑W,a6,↑u,some (.int ((i:Nat):Int)),some (oV o)]/\F=dc,?_,λfq ci=>?_)
  .let(us,Z,ag,a9):=b3.q.hf;let(v,a4,(rfl,a2,_)):=a9 i _ _ bl c7;rfl';show(_,uC.of Z,_,CC a4,r.sh,rfl,_,uC.of a2,_,CC (j:=2) rfl,rfl)
  rintro⟨rfl,rfl⟩;show(λD F=>∃a6 g,D=[↑pl,↑m,some (oV c),↑O,↑W,a6,↑u,some (.int ((i:Nat):Int)),some (oV g)]/\F=ci/\g=EM o (tE p.sr p.ts),?_,λft ew=>?_)
  .let(ar,af,b6,b5):=b3.q.hs;let b6:ar.length=p.sr.length:=b6;rfl';show(_,.inl (_,uC.of af,rfl),⋯,⋯,?_);show CJ (λk D F=>∃a6 g,D=[↑pl,↑m,some (oV c),↑O,↑W,a6,↑u,some (.int ((i:Nat):Int)),some (oV g)]/\F=ci/\((∃j,g>j/\(o>j\/(o=none/\tE p.sr p.ts>j)))\/(g=none/\o=none/\∀b < k,(∃r,p.sr[b]?>(some r))\/∃t,p.ts[b]?>(some t)))) (_,o,rfl,rfl,?_) (λk D F a7=>?_) (λD F=>?_)
   .cases o with
    |some j=>show .inl (j,rfl,.inl rfl)
    |none=>show .inr (rfl,rfl,λb U=>absurd U (jC _))
   .rintro⟨ce,g,rfl,rfl,ai⟩;let c5:k < p.sr.length:=⋯;obtain⟨ap,aj⟩:∃r,p.sr[k]?>r:=⟨_,cA c5⟩
    obtain⟨b7,a8⟩:∃o,p.ts[k]?>o:=⟨_,cA ⋯⟩
    let(v,a4,al):=b5 k ap b7 aj a8;rfl';let(j,rfl,ao)||(rfl,rfl,U):=ai
    .rw[gA (show ¬(oV (some j)=V.non) from λa0=>nomatch a0)];show(some j,rfl,.inl (j,rfl,ao))
    .rw[iA (show oV none=V.non from rfl)];show(ar,uC.of af,v,by rw[pB];show CC a4,?_);let d8:((∃r,p.sr[k]?>(some r))\/∃t,p.ts[k]?>(some t))->∀b < k+1,(∃r,p.sr[b]?>(some r))\/∃t,p.ts[b]?>(some t):=λh b dp=>by
      let c0||rfl:=(by omega:b < k\/b=k)
      .show U b c0
      .show h
     cases ap with
     |some ap=>
      let(rfl,_):=al;rw[gA (λa0=>nomatch a0)];show(none,rfl,.inr (rfl,rfl,d8 (.inl ⟨_,aj⟩)))
     |none=>
      cases b7 with
      |none=>
       obtain rfl:v=.non:=al;rw[iA rfl];show(some k,by rw[pB];rfl,.inl (k,rfl,.inr ⟨rfl,WX aj a8 U⟩))
      |some b=>
       let(a,_,_,rfl,_):=al;rw[gA (λa0=>nomatch a0)];show(none,rfl,.inr (rfl,rfl,d8 (.inr ⟨_,a8⟩)))
   .rintro⟨ce,g,rfl,rfl,ai⟩;show(_,g,rfl,rfl,?_);let(j,rfl,rfl||(rfl,e))||(rfl,rfl,U):=ai
    .rfl
    .show e.symm
    .show (XX λk a7=>U k ⋯).symm
  rintro⟨fc,g,rfl,rfl,ai⟩;let ay:∀c,nD p i c=EM g (EM (cG p.tf) c):=λc=>by
   unfold nD;rw[c7,ai];unfold EM;cases o with
   |some j=>rfl
   |none=>
    cases tE p.sr p.ts with
    |some j=>rfl
    |none=>rfl
  show(λD F=>∃a6 a3 tf',D=[↑pl,↑m,some (oV c),↑O,↑W,a6,↑u,some (.int ((i:Nat):Int)),some (oV a3)]/\Lg L5 a5 G u pl O W p i ah tf' F/\((a3=none/\tf'=p.tf/\g=none/\cG p.tf=none)\/(∃j,a3>j/\nD p i none>j/\∀a:Nat,a≠i->tf'[a]?=(p.tf.map (cl j))[a]?)),?_,λfu ey=>?_)
  .let(us,Z,ag,a9):=b3.q.hf;let ag:us.length=p.fr.length:=ag;rfl';show(_,.inl (_,uC.of Z,rfl),⋯,⋯,?_);let e1:∀{j},g>j->∀a:Nat,a≠i->p.tf[a]?=(p.tf.map (cl j))[a]?:=λ{j} e a ac=>by
    rw[e] at ai;cases o with
    |some b1=>
     obtain rfl:j=b1:=bA ai;rw[FA];cases be:p.tf[a]? with
     |none=>rfl
     |some y=>
      change some y>(cl j y);unfold cl;rewrite[gA (λa0=>?_)];(try with_reducible rfl);rw[a0] at be;let ad:=J.tw.there a j be;rw[J.tw.there i j c7] at ad;show ac (bA (bA ad)).symm
    |none=>
     let be:tE p.sr p.ts>j:=ai.symm;rw[FP λa h=>by have:=J.tw.there a j h;rw[(zM be).2] at this;cases this]
   show CJ (λk D F=>∃a6 a3 tf',D=[↑pl,↑m,some (oV c),↑O,↑W,a6,↑u,some (.int ((i:Nat):Int)),some (oV a3)]/\Lg L5 a5 G u pl O W p i ah tf' F/\((a3=none/\tf'=p.tf/\g=none/\∀b < k,p.tf[b]?>none)\/(∃j,a3>j/\nD p i none>j/\∀a:Nat,a≠i->tf'[a]?=(p.tf.map (cl j))[a]?))) (_,g,p.tf,rfl,(b3.q,d5,AI,rfl,ec),?_) (λk D F a7=>?_) (λD F=>?_)
   .cases g with
    |none=>show .inl (rfl,rfl,rfl,λb U=>absurd U (jC _))
    |some j=>show .inr (j,rfl,ay none,e1 rfl)
   .rintro⟨ce,a3,tf',rfl,a1,hd⟩;let c5:k < p.fr.length:=⋯;let(ap,aj):=ae k c5;let(us,Z,ag,a9):=a1.q.hf;rfl';let(rfl,rfl,rfl,U)||(j,rfl,ao):=hd
    .obtain⟨b7,a8⟩:∃o,p.tf[k]?>o:=⟨_,cA ⋯⟩
     let(v,a4,(rfl,a2,_)):=a9 k _ _ aj a8;rw[iA (show oV none=V.non from rfl),pB];show(us,uC.of Z,_,CC a4,ap.sh,rfl,_,uC.of a2,oV b7,CC (j:=2) rfl,?_);cases b7 with
     |none=>
      show aJ (by rw[BA (show oV none=V.non from rfl)];rfl) (none,rfl,p.tf,a1,.inl (rfl,rfl,rfl,λb dp=>?_));let c0||rfl:=(by omega:b < k\/b=k)
      .show U b c0
      .show a8
     |some j=>
      let one:∀a:Nat,p.tf[a]?>(some j)->a=k:=λa ac=>by
       let ad:=J.tw.there a j ac;rw[J.tw.there k j a8] at ad;show (bA (bA ad)).symm
      show pI (by rw[zA (show ¬(oV (some j)=V.non) from λa0=>nomatch a0)];rfl) (us,uC.of Z,_,CC a4,ap.sh,rfl,_,uC.of a2,_,CC (j:=2) rfl,us,uC.of Z,_,CC a4,ap.sh,rfl,_,a2,2,HF (by change 2 < 3;decide),some j,rfl,p.tf.set k none,(?_,a1.mv.trans (Mv.set a2 (by rw[(a9 k _ _ aj a8).choose_spec.2.2.2.2.2.1];simp)),?_,rA,?_),.inr (j,rfl,?_,λa ac=>by rw[ML a8 one]))
      .show a1.q.untw aj a8 one (cx ap (dA aj)).2
      .rewrite[sC (λe=>?_)];(try with_reducible rfl)
       .show a1.u5
       .let ak:=(a9 k _ _ aj a8).choose_spec.2.2.2.2.2.1;rw[<-e,bm] at ak;cases ak
      .intro d2 db ca;rewrite[sC (λe=>?_)];(try with_reducible rfl)
       .show a1.sk d2 db ca
       .let(_,_,_,_,(_,eq,_)):=J.slot ca;let cg:=a1.sk d2 db ca;rw[eq,e,a2] at cg;simp only[vB,HO.lst.injEq,lB,and_true] at cg;cases cg.2.2
      .rw[ay];unfold EM;rw[r6 a8 U]
    .rw[gA (show ¬(oV (some j)=V.non) from λa0=>nomatch a0)];show(some j,rfl,tf',a1,.inr (j,rfl,ao))
   .rintro⟨ce,a3,tf',rfl,a1,hd⟩;show(_,a3,rfl,tf',a1,hd.imp (λ⟨a,b,c,df⟩=>(a,b,c,NL λb U=>df b ⋯)) id)
  rintro⟨cf,a3,tf',rfl,c1,hd⟩;show(λD F=>∃j tf',D=[↑pl,↑m,some (oV c),↑O,↑W,cf,↑u,some (.int ((i:Nat):Int)),some (.int ((j:Nat):Int))]/\Lg L5 a5 G u pl O W p i ah tf' F/\nD p i c>j/\j < p.sr.length/\∀a:Nat,a≠i->tf'[a]?=(p.tf.map (cl j))[a]?,?_,λfg bt=>?_)
  .let(j,bg,cq):=e4 i;rfl';let(rfl,rfl,rfl,U)||(b1,rfl,dt,du):=hd
   .let ax:=ay c;rw[U] at ax;let ak:c>j:=by rw[bg] at ax;show ax.symm
    show CF (λο=>(j,by rw[ak];rfl,p.tf,c1,bg,cq,λa ο=>?_)) (λa0=>absurd rfl a0);rw[FP λa h=>by have:=ZX U (aA.mp h).1;rw[this] at h;cases h]
   .let ak:b1=j:=by
     let ad:=ay c;let au:=ay none;rw[dt] at au;rw[bg] at ad;unfold EM at ad au;cases g with
     |some y=>show bA (au.trans ad.symm)
     |none=>
      cases bd:cG p.tf with
      |some y=>rw[bd] at ad au;show bA (au.trans ad.symm)
      |none=>rw[bd] at au;cases au
    subst ak;show CF (λa0=>by cases a0) (λο=>(b1,rfl,tf',c1,bg,cq,du))
  rintro⟨j,tf',rfl,a1,c8,cr,e7⟩;clear c1 hd ay ai b3 d5 AI;obtain⟨fa,e0⟩:∃o,tf'[i]?>o:=⟨_,cA (by have:=a1.tl;omega)⟩
  show(λD F=>∃ab a,D=[↑pl,↑m,some (oV c),↑O,↑W,cf,↑u,some (.int ((i:Nat):Int)),some (.int ((j:Nat):Int))]/\Lq F ab pl O W ((i+1) % p.fr.length) p.fr (p.sr.set j (some {r with sh:=a})) tf' (p.ts.set j none) (pE p.fr)/\Mv [1,2] a5 ab G F/\F u>(.lst (ah.map V.int))/\ab u=5/\Sk p G F,?_,λfh eu=>?_)
  .let(us,Z,ag,a9):=a1.q.hf;let(v,a4,al):=a9 i _ _ bl e0;let(rfl,a2,bx,bf,dj,cm,cn):=id al;rfl';show(us,uC.of Z,_,CC a4,r.sh,rfl,_,uC.of a2,_,CC (j:=0) rfl,us,uC.of Z,_,CC a4,r.sh,rfl,_,uC.of a2,_,CC (j:=1) rfl,λa ac=>?_);let bp:=a1.q.new (k:=2) (us:=[V.ref r.bx,V.ref r.hd,V.non]) ac;let ei:=a1.mv.trans (Mv.new (k:=2) (o:=.lst [V.ref r.bx,V.ref r.hd,V.non]) ac);let ee:lab L5 a 2 a=2:=NH;let(bc,de):=jD (o:=.lst [V.ref r.bx,V.ref r.hd,V.non]) ac;let nl:∀{c us k},bt c>(.lst us)->L5 c=k->lab L5 a 2 c=k:=λdq a7=>by rw[qH (mE dq ac)];show a7
   let e3:RF (upd bt a (.lst [V.ref r.bx,V.ref r.hd,V.non])) (lab L5 a 2) (.ref a) (some {r with sh:=a}) none:=(rfl,de,bc _ _ bx,bf.same bc,ee,nl bx cm,(let ⟨d3,bz,_⟩:=bf;nl bz cn))
   let eo:=bc _ _ a1.u5;let ed:=a1.sk.same J bc;let cd:=nl a1.u5 bm;generalize upd bt a _=ba at *;generalize lab L5 a 2=ab at *;let(ar,af,b6,_):=bp.hs;show(ar,af,j,HF ⋯,ab,a,bp.slot (j:=j) (r:=some {r with sh:=a}) (o:=none) af e3,ei.trans (Mv.set af (by rw[bp.l1.2.2];simp)),?_,cd,ed.upd J (by rw[J.q.l1.2.2];decide));rw[sC (λe=>by rw[e,bp.l1.2.2] at cd;cases cd)];show eo
  rintro⟨ab,a,rfl,bn,ef,en,cb,ea⟩;show(λD F=>D=[↑pl,↑m,some (oV c),↑O,↑W,cf,↑u,some (.int ((i:Nat):Int)),some (.int ((j:Nat):Int))]/\Lq F ab pl O W ((i+1) % p.fr.length) (p.fr.set i none) (p.sr.set j (some {r with sh:=a})) (tf'.set i none) (p.ts.set j none) (pE p.fr)/\Mv [1,2] a5 ab G F/\F u>(.lst (ah.map V.int))/\Sk p G F,?_,λfj ba=>?_)
  .let(us,Z,ag,_):=bn.hf;rfl';show(us,Z,i,HF ⋯,bn.frame (j:=i) (r:=none) (o:=none) Z rfl,ef.trans (Mv.set Z (by rw[bn.l1.2.1];simp)),?_,ea.upd J (by rw[J.q.l1.2.1];decide));rw[sC (λe=>by rw[e,bn.l1.2.1] at cb;cases cb)];show en
  rintro⟨rfl,d9,eg,da,eb⟩;let(ar,af,b6,b5):=d9.hs;let dv:j < p.ts.length:=⋯;let(v,a4,(rfl,a2,bx,bf,dj,cm,cn)):=b5 j (some {r with sh:=a}) none (yA cr) (yA dv);let(d3,bz,a3):=id bf;let a2:ba a>(.lst [.ref r.bx,.ref r.hd,oV none]):=a2;rfl';let dw:=Paired.length a3;let ek:Lp ba ab pl O W (ZD {p with h:=(i+1) % p.fr.length} i j {r with sh:=a}):=by
   let az:=(J.tw.hand (h:=(i+1) % p.fr.length)).out (i:=i) (j:=j) (r:={r with sh:=a}) λb U=>HP (s:=p) c8 U;let(ax,ak,bd,_,_,_,dg,dh):=sI (s:={p with h:=(i+1) % p.fr.length}) (i:=i) (j:=j) (r:={r with sh:=a});let(bv,bw):=GP (j:=j) (J.tw.hand (h:=(i+1) % p.fr.length));show⟨?_,az.1⟩;rw[dg,dh,bv,bw,ax,ak,bd];change Lq ba ab pl O W ((i+1) % p.fr.length) (p.fr.set i none) (p.sr.set j (some {r with sh:=a})) (p.tf.map (cl j)) (p.ts.set j none) (pE (p.fr.set i none));let el:=d9.free (tf':=p.tf.map (cl j)) (by rw[fA,rA,a1.tl]) λb s U=>by
    let cp:b≠i:=λe=>by
     rw[e,yA c4] at U;cases U
    rw[oA,gA (Ne.symm cp)];show (e7 b cp).symm
   show el.twins λe9 b1 dk=>?_;let(co,dl):=KG.mp dk;let dr:e9≠i:=λe=>by
    rw[e] at co;show dl (HP c8 (J.tw.back i b1 co))
   unfold pE;rw[oA,gA (Ne.symm dr)]
  show(ar,uC.of af,_,CC a4,a,rfl,_,uC.of a2,_,CC (j:=1) rfl,r.hd,rfl,d3,uC.of bz,r.ks,wM a3 (λο ο q=>q),by have:=b8.1;rw[dw];show this,b8.2.1,b8.2.2,λl br ks bh cu e2 e8 cc e6 t az=>?_);rw[yP b8.2.2 b8.2.1 e2 e8] at cu;let(av,bv):=jD (o:=.lst br) bh;let em:=ek.new (k:=5) (us:=br) bh;let eh:=eg.trans (Mv.new (k:=5) (o:=.lst br) bh);let(bb,bw):=jD (o:=.tup [V.int (j:Int),V.ref l]) e6;let(cj,dd):=jD (o:=.tup [V.int (i:Int),V.ref u,V.ref cc]) az;let aw:=bb.trans cj;show q _ (lab ab l 5) _ i ah (some (j,r)) t u (.ref cc) (.inr (cw,r,j,a,e5,bl,c8,cr,rfl,rfl)) (em.same aw) (eh.trans (Mv.of aw)) dd (aw _ _ (av _ _ da)) (cc,l,rfl,cj _ _ bw,(br,aw _ _ bv,wM cu λ_ _ ⟨x,e,h⟩=>(x,e,aw _ _ (av _ _ h))),NH) (by rw[qH (mE da bh)];show cb) ((eb.same J av).same J aw)
theorem PP:∀{ds:!Dv} {n:Nat},(∀d∈ds,RC d<=n)->AC ds<=n
 |[],_,_=>by rw[AC];omega
 |d::ds,n,h=>by
  have:=PP (ds:=ds) (n:=n) λx hx=>h x (kA _ hx);have:=h d (wA ..);rw[AC];omega
theorem mT {j:Type} {f:j->V} {xs:!j} {b:Bool}:RC (.seq b (xs.map λx=>.leaf (f x)))<=1:=by
 have:=PP (ds:=xs.map λx=>Dv.leaf (f x)) (n:=0) (λq hd=>by
  let(x,_,rfl):=jB.mp hd;rw[RC];omega)
 rw[RC];omega
theorem xY {ks:!(!Key)}:RC (CM ks)<=2:=by
 have:=PP (ds:=ks.map ZS) (n:=1) (λd hd=>by
  let(k,_,rfl):=jB.mp hd;show mT)
 unfold CM;rw[RC];omega
theorem OL {r:Option Tr}:RC (TH r)<=3:=by
 cases r with
 |none=>unfold TH;rw[RC];omega
 |some r=>
  let(b,ks,o):=r;let q:RC (AL b)<=1:=mT;let D:=xY (ks:=ks);let j:RC (DM o)=0:=by cases o<;>(unfold DM;rw[RC])
  unfold TH;rw[RC,AC,AC,AC,AC,j];omega
theorem PL {rows:!(Option Tr)}:RC (.seq false (rows.map TH))<=4:=by
 have:=PP (ds:=rows.map TH) (n:=3) (λd hd=>by
  let(k,_,rfl):=jB.mp hd;show OL)
 rw[RC];omega
theorem DI.uq {ms:!Bool} {h i D:Nat} {F J:!Int} (a:DI ms h i F) (b:DI ms h D J):i=D/\F=J:=by
 let(j,a1,O,U,a2,V):=a;let(k,a3,W,Z,a4,a0):=b;have:j=k:=by
  let h||h||h:=(by omega:j < k\/j=k\/k < j)
  .have:=W j h;let q||q:=U
   .omega
   .rw[q] at this;cases this
  .show h
  .have:=O k h;let q||q:=Z
   .omega
   .rw[q] at this;cases this
 subst this;show⟨⋯,by rw[V,a0]⟩
theorem t6 {H:Hp} {t e o l:Addr} {x y:Int} {j q:Dv} (D:H t>(.tup [.int x,.ref e,.ref o])) (F:yD H j (.ref e)) (J:H o>(.tup [.int y,.ref l])) (O:yD H q (.ref l)):yD H (.seq true [.leaf (.int x),j,.seq true [.leaf (.int y),q]]) (.ref t):=by
 unfold yD;show(t,_,rfl,D,by change 3 < 16777216;decide,?_);unfold NC;show(_,_,rfl,by unfold yD;show⟨rfl,rfl⟩,?_);unfold NC;show(_,_,rfl,F,?_);unfold NC;show(_,_,rfl,?_,by unfold NC;rfl);unfold yD;show(o,_,rfl,J,by change 2 < 16777216;decide,?_);unfold NC;show(_,_,rfl,by unfold yD;show⟨rfl,rfl⟩,?_);unfold NC;show(_,_,rfl,O,by unfold NC;rfl)
def QP (i:Nat) (ps:!Int):Option (Nat×!(!Key))->Dv
 |none=>.seq true [.leaf (.int (i:Int)),AL ps,.leaf .non]
 |some (j,ks)=>.seq true [.leaf (.int (i:Int)),AL ps,.seq true [.leaf (.int (j:Int)),CM ks]]
theorem QL {i:Nat} {q:!Int} {o:Option (Nat×!(!Key))}:RC (QP i q o)<=4:=by
 let D:RC (AL q)<=1:=mT;cases o with
 |none=>
  unfold QP;rw[RC,AC,AC,AC,AC,RC,RC];omega
 |some x=>
  let(j,ks):=x;let F:=xY (ks:=ks);unfold QP;rw[RC,AC,AC,AC,AC,RC,RC,AC,AC,AC,RC];omega
theorem u6 {H:Hp} {t e:Addr} {x:Int} {j:Dv} (q:H t>(.tup [.int x,.ref e,.non])) (D:yD H j (.ref e)):yD H (.seq true [.leaf (.int x),j,.leaf .non]) (.ref t):=by
 unfold yD;show(t,_,rfl,q,by change 3 < 16777216;decide,?_);unfold NC;show(_,_,rfl,by unfold yD;show⟨rfl,rfl⟩,?_);unfold NC;show(_,_,rfl,D,?_);unfold NC;show(_,_,rfl,by unfold yD;show⟨rfl,rfl⟩,by unfold NC;rfl)
def oW (o:Option (Nat×Sh)):Option (Nat×!(!Key)):=o.map λx=>(x.1,zD x.2.ks)
theorem jF.at {H:Hp} {D:Lb} {v:V} {o:Option (Nat×Sh)} (h:jF H D v o):ED [] H v o:=by
 cases o with
 |none=>show h
 |some x=>let(j,q):=x;let(o,l,e,F,J,O):=h;show(o,l,e,F,J,by simp)
theorem jF.zv {S:!Nat} {H F:Hp} {J O:Lb} {v:V} {o:Option (Nat×Sh)} (h:jF H J v o) (D:Zv S J O H F) (a1:5∉S):jF F O v o:=by
 cases o with
 |none=>show h
 |some x=>
  let(j,q):=x;let(o,l,e,U,(us,W,a0),Z):=h;let(a2,a3):=D.lst W Z (by decide) a1;show(o,l,e,D.tup U,(us,a2,Paired.mapP a0 λ_ _ ⟨a,e,q⟩=>(a,e,D.tup q)),a3)
theorem K6 {ms:!Bool} {h i:Nat} {j:!Int} (w:DI ms h i j):j.length<=ms.length:=by
 let(F,q,_,_,_,D):=w;rw[D,TN];show q
def vE:Option Sh->Option Sh->Prop
 |none,none=>True
 |some r,some w=>w.b=r.b/\w.ks.Perm r.ks
 |_,_=>False
structure QD (s p:St):Prop where
 fr:Paired vE s.fr p.fr
 sr:Paired vE s.sr p.sr
 tf:p.tf=s.tf
 ts:p.ts=s.ts
 h:p.h=s.h
theorem yY {a b:!(Option Sh)} (h:Paired vE a b):a.map Option.isNone=b.map Option.isNone:=by
 induction h with
 |nil=>rfl
 |@cons x y _ _ h t ih=>
  rw[AA,AA,ih];cases x<;>cases y<;>first|rfl|exact h.elim
theorem zY {a b:!(Option Sh)} {t:!(Option Nat)} (h:a.map Option.isNone=b.map Option.isNone):tE a t=tE b t:=by
 let e:∀l:!(Option Sh),tE l t=((l.map Option.isNone).zip t).findIdx? λp=>p.1&&p.2.isNone:=λl=>by
  unfold tE;rw[List.zip_map_left,List.findIdx?_map]
  rfl
 rw[e,e,h]
theorem QD.emf {s p:St} (h:QD s p):tE p.fr p.tf=tE s.fr s.tf:=by rw[h.tf];show (zY (yY h.fr)).symm
theorem QD.slot {s p:St} (h:QD s p) {i:Nat} {c:Option Nat}:nD p i c=nD s i c:=by
 unfold nD;rw[h.tf,h.ts,zY (yY h.sr).symm]
theorem QD.at {s p:St} (h:QD s p) {i:Nat} {r:Sh} (q:s.fr[i]?>(some r)):∃w,p.fr[i]?>(some w)/\w.b=r.b/\w.ks.Perm r.ks:=by
 let(y,D,j):=QG h.fr q;cases y with
 |none=>show j.elim
 |some w=>show(w,D,j)
theorem QD.ats {s p:St} (h:QD s p) {i:Nat} {r:Sh} (q:s.sr[i]?>(some r)):∃w,p.sr[i]?>(some w)/\w.b=r.b/\w.ks.Perm r.ks:=by
 let(y,D,j):=QG h.sr q;cases y with
 |none=>show j.elim
 |some w=>show(w,D,j)
def eJ:Option (Nat×Sh)->Option (Nat×Sh)->Prop
 |none,none=>True
 |some (j,q),some (j',q')=>j=j'/\q'.b=q.b/\q'.ks.Perm q.ks
 |_,_=>False
theorem QD.out {s p:St} (h:QD s p) (a6:Tw s) (a7:Tw p) {i j x:Nat} {q q':Sh} (a8:q'.b=q.b) (a9:q'.ks.Perm q.ks):QD (ZD {s with h:=x} i j q) (ZD {p with h:=x} i j q'):=by
 let(a1,a2,a3,_,_,_,a4,a5):=sI (s:={s with h:=x}) (i:=i) (j:=j) (r:=q);let(U,V,W,_,_,_,Z,a0):=sI (s:={p with h:=x}) (i:=i) (j:=j) (r:=q');let(D,F):=GP (j:=j) (a6.hand (h:=x));let(J,O):=GP (j:=j) (a7.hand (h:=x));show(?_,?_,?_,?_,?_)
 .rw[a1,U];show CI (show vE none none from trivial) i h.fr
 .rw[a2,V];show CI (show vE (some q) (some q') from ⟨a8,a9⟩) j h.sr
 .rw[a4,Z,D,J];change p.tf.map (cl j)=s.tf.map (cl j);rw[h.tf]
 .rw[a5,a0,F,O];change p.ts.set j none=s.ts.set j none;rw[h.ts]
 .rw[a3,W]
theorem QD.ffr {s p s1 a2:St} {c U:Option Nat} {ms:!Bool} {i a0:Nat} {a3 a4:!Int} {out a1:Option (Nat×Sh)} (h:QD s p) (a9:Tw s) (aa:Tw p) (a:NF s c ms s1 i a3 out) (b:vI p U ms a2 a0 a4 a1) (ab:∀i j,nD s i c>j->nD s i U>j):i=a0/\a3=a4/\QD s1 a2/\eJ out a1:=by
 let(F,rfl,rfl,rfl)||(F,q,j,a5,a6,a7,ad,rfl,rfl):=a
 .let(D,rfl,rfl,rfl)||(D,_):=b
  .rw[h.emf,F] at D;show(bA D,rfl,h,trivial)
  .rw[h.emf,F] at D;cases D
 .let(D,_)||(D,q',j',x,J,a8,O,ae,rfl,rfl):=b
  .rw[h.emf,F] at D;cases D
  .rw[h.h] at J;let(rfl,rfl):=DI.uq a5 J;rw[h.slot,ab _ _ a7] at O;obtain rfl:j=j':=bA O;let(w,Z,V,W):=h.at a6;rw[a8] at Z;obtain rfl:q'=w:=bA (bA Z);let ac:p.fr.length=s.fr.length:=(Paired.length h.fr).symm;show(rfl,rfl,?_,rfl,V,W);rw[ac];show h.out a9 aa (q':={q' with sh:=x}) V W
theorem QD.back {s1 J:St} {i j:Nat} {q q':Sh} {out D:Option (Nat×Sh)} (h:QD s1 J) (F:eJ out D) (a6:q'.b=q.b) (a7:q'.ks.Perm q.ks):QD (wD s1 i j q out) (wD J i j q' D):=by
 let(a0,a1,a2,a3,a4,_):=rL (s1:=s1) (i:=i) (j:=j) (c:=q) (out:=out);let(W,O,U,V,Z,_):=rL (s1:=J) (i:=i) (j:=j) (c:=q') (out:=D);let a5:D.map (·.1)=out.map (·.1):=by
  cases out with
  |none=>cases D with
   |none=>rfl
   |some _=>show F.elim
  |some x=>cases D with
   |none=>show F.elim
   |some y=>let(a,b):=x;let(c,a8):=y;let(rfl,_):=F;rfl
 rw[a5] at O U V;show(?_,?_,?_,?_,?_)
 .rw[a0,W];show CI (show vE (some q) (some q') from ⟨a6,a7⟩) i h.fr
 .rw[a1,O]
  split
  .show h.sr
  .show CI (show vE none none from trivial) j h.sr
 .rw[a2,U,h.tf]
 .rw[a3,V,h.ts]
 .rw[a4,Z,h.h]
theorem QD.tw {s p:St} (h:QD s p) (t:Tw s):Tw p:=(by rw[h.tf,h.ts];show t.there,by rw[h.tf,h.ts];show t.back,λa b j=>by
 rw[h.tf] at j;let(r,q):=t.full a b j;let(w,D,_):=h.at q;show⟨w,D⟩,λa b j=>by
 rw[h.ts] at j;let(y,F,J):=QG h.sr (t.bare a b j);cases y with
 |none=>show F
 |some w=>show J.elim)
theorem vI.facts {p D:St} {c:Option Nat} {ms:!Bool} {i:Nat} {a5:!Int} {out:Option (Nat×Sh)} (h:vI p c ms D i a5 out) (V:Tw p):D.fr[i]?>none/\D.fr.length=p.fr.length/\D.sr.length=p.sr.length/\(∀b,D.tf[i]?≠some (some b))/\(∀j,out.map (·.1)≠some j->D.sr[j]?=p.sr[j]?):=by
 let(O,rfl,_,rfl)||(O,q,j,a,a8,a0,a1,a7,rfl,rfl):=h
 .let(F,J):=zM O;show(F,rfl,rfl,(λb U=>by rw[J] at U;cases U),λο ο=>rfl)
 .let(F,J,_):=sI (s:={p with h:=(i+1) % p.fr.length}) (i:=i) (j:=j) (r:={q with sh:=a});let(a3,a4):=cY (s:={p with h:=(i+1) % p.fr.length}) (i:=i) (j:=j) (r:={q with sh:=a});let(a9,a6):=(V.hand (h:=(i+1) % p.fr.length)).out (r:={q with sh:=a}) (j:=j) λb W=>HP (s:=p) a1 W;show(?_,a3,a4,a6,λa2 Z=>?_)
  .rw[F];show yA (aA.mp a0).1
  .rw[J];change (p.sr.set j _)[a2]?=_;rw[oA,gA (λe=>Z (by rw[<-e];rfl))]
theorem pT {a b:!(!Key)} (h:a.Perm b) (ok:LH b):zD a=zD b:=yP ok.2.2 ok.2.1 (JG.trans h) (JS (λx j=>ok.2.2 x (h.mem_iff.mp j)) (h.nodup_iff.mpr ok.2.1))
theorem LH.pm {a b:!(!Key)} (h:a.Perm b) (ok:LH b):LH a:=(by rw[h.length_eq];show ok.1,h.nodup_iff.mpr ok.2.1,λk j=>ok.2.2 k (h.mem_iff.mp j))
theorem QD.bof {s p:St} (h:QD s p) {i:Nat}:pE p.fr i=pE s.fr i:=by
 unfold pE;cases e:s.fr[i]? with
 |none=>
  rw[CB (by rw[<-Paired.length h.fr];show NB.mp e)]
 |some r=>
  let(y,q,j):=QG h.fr e;rw[q];cases r<;>cases y<;>first|rfl|exact j.elim|exact j.1
def RT (H:Hp) (v:V):Option Tr->Prop
 |none=>v=.non
 |some (b,(ks,o))=>∃a ba ha k0,v=.ref a/\H a>(.lst [.ref ba,.ref ha,oV o])/\H ba>(.lst (b.map V.int))/\vF H ha k0/\LH k0/\zD k0=ks
theorem RT.same {H j:Hp} {v:V} {t:Option Tr} (h:RT H v t) (s:pC H j):RT j v t:=by
 cases t with
 |none=>show h
 |some x=>
  let(b,ks,o):=x;let(a,q,U,k0,e,D,F,J,O):=h;show(a,q,U,k0,e,s _ _ D,s _ _ F,J.same s,O)
def RL (K:W.Frag):Sp:=λvs H Q ο=>∃(fd rl:Addr) (us:!V) (rows:!(Option Tr)),vs=[.ref fd,.ref rl]/\H rl>(.lst us)/\us.length=rows.length/\(∀(i:Nat) t,rows[i]?>t->∃v,us[i]?>v/\RT H v t)/\(∀r,some r∈rows->bG r)/\rows.length<=64/\yD H (.seq false (rows.map TH)) (.ref fd)/\∀H',pC H H'->Q (.bl true) H'
theorem DO (T:LD K mg A):oE P w K mg base "_law_told" 8 ["_law_found","_law_row"] [] (RL K):=by
 let b2:=@xP P w K mg base A T 5;show T.Fr.have mS (λvs H Q E U=>?_) ?_
 .let(a6,ac,us,rows,rfl,_):=U;rfl
 .intro f bw bt c5 s H vs Q E bf U;let(a6,ac,us,rows,rfl,aq,bh,bb,ok,bx,ba,q):=U;let hz:=PySem.sizeLine_eq;show(_,(OC (mD (i:=2) mS.nd rfl (Or.inl rfl) (cF wC))
   (AD (DG RA rfl (vH (lC 1)) (jE (i:=3) mS.nd rfl (Or.inl rfl)) (FC (JD (CD yG (lC 3) BD (rC _)) (FC (kF (lH PySem.F.plainAttrs_list PySem.F.slot_list_append PySem.F.type_list_append BH (lC 2) (nC BD wC)))) (FC (kF (lH PySem.F.plainAttrs_list PySem.F.slot_list_append PySem.F.type_list_append BH (lC 2) (nC (aF (nC (BC LC (lC 3) yC (λο ο=>rfl)) (nC (MD (lX rfl) rfl T.Cz PyProof.Rows.boot_sorted (nC (BC LC (lC 3) yC (λο ο=>rfl)) wC)) (nC (BC LC (lC 3) yC (λο ο=>rfl)) wC)))) wC)))))))
   (FC (sD (XD b2 (-bf) WC (nC (lC 0) (nC (lC 2) wC))))))),?_)
  rfl';intro D a5;let(s1,b9):=jD (o:=.lst []) a5;generalize upd H D _=H1 at *;show(λa0 G=>∃Z F,a0=[↑a6,↑ac,↑D,Z]/\pC H G/\G D>(.lst F)/\Paired (LG G [D]) F rows,?_,λc8 bu=>?_)
  .rfl';show⟨⟨_,uC.of (s1 _ _ aq)⟩,HK (K:=K) (xs:=us) (λj a0 G=>∃Z F,a0=[↑a6,↑ac,↑D,Z]/\pC H G/\G D>(.lst F)/\Paired (LG G [D]) F (rows.take j)) (_,[],rfl,s1,b9,.nil) (λj a0 G _ ae=>by let(_,_,ae):=ae;show uC.of (ae.2.1 _ _ aq)) (λj v a0 G ai=>?_) (λa0 G=>?_)⟩
   .rintro⟨Z,F,rfl,O,J,W⟩;let c0:=(aA.mp ai).1;obtain⟨o,ao⟩:∃o,rows[j]?>o:=⟨_,cA ⋯⟩
    let(br,au,am):=bb j o ao;rw[ai] at au;obtain rfl:v=br:=bA au;let ap:=am.same O;let ar:rows.take (j+1)=rows.take j++[o]:=by rw[uB,ao];rfl
    let bj:=Paired.length W;rw[dB] at bj;let av:∀{a2:Hp} {b0:!V},pC G a2->a2 D>(.lst b0)->∀{b1:!V},Paired (LG (upd a2 D (.lst b1)) [D]) F (rows.take j):=λ{a2 b0} bq bz {b1}=>Paired.mapP W λο ο q=>q.keep (xs:=[D]) (λx aa=>⟨F,by rw[nA.mp aa];show J⟩) (λc o a7 a9 ο=>by rw[sC (λU=>a9 (by simp[U]))];show bq _ _ a7);rfl';cases o with
    |none=>
     obtain rfl:v=.non:=ap;rw[iA rfl];show(.inl (rfl,_,uC.of J),F,J,⋯,qF O a5,_,rfl,?_);rw[ar];show UG (av vD J) rfl
    |some r=>
     let(b,ks,tw):=r;let(ad,a3,ak,k0,rfl,a4,b6,(bl,b7,ah),(c4,aw,o3),rfl):=id ap;let c2:=Paired.length ah;rw[gA nofun];let bc:a3≠D:=λe=>by
      let(c7,bv,c1,_,b8,bn,ay,_):=am;cases b8;let ax:=O _ _ bn;rw[a4] at ax;cases ax;rw[e,a5] at ay;cases ay
     show(.inl (rfl,_,uC.of J),ad,rfl,_,uC.of a4,.ref a3,CC (j:=0) rfl,ad,rfl,_,uC.of a4,.ref ak,CC (j:=1) rfl,ak,rfl,bl,uC.of b7,k0,wM ah (λο ο q=>q),⋯,aw,o3,λl3 az c3 al aj bd bg=>?_);rw[yP o3 aw bd bg] at aj;let(af,b4):=jD (o:=.lst az) al;generalize upd G l3 _=J3 at *;show(ad,rfl,_,uC.of (af _ _ a4),oV tw,CC (j:=2) rfl,λab be=>?_);let(ag,b5):=jD (o:=.tup [V.ref a3,V.ref l3,oV tw]) be;generalize upd J3 ab _=J4 at *;let a1:=af.trans ag;let a8:=a1 _ _ J;let bm:l3≠D:=(mE J al).symm;show(F,a8,⋯,qF (O.trans a1) a5,_,rfl,?_);rw[ar];let bi:LG J4 [D] (.ref ab) (some (b,(zD k0,tw))):=(ab,a3,l3,rfl,b5,a1 _ _ b6,(az,ag _ _ b4,wM aj λ_ _ ⟨a,e,q⟩=>(a,e,a1 _ _ q)),by simpa using bc,by simpa using bm)
     show UG (av a1 a8) (bi.keep (xs:=[D]) (λx aa=>⟨F,by rw[nA.mp aa];show a8⟩) (λc o a7 a9 ο=>by rw[sC (λU=>a9 (by simp[U]))];show a7))
   .rintro⟨Z,F,rfl,O,J,W⟩;rw[bh,eB] at W;show(Z,rfl,O,F,J,W)
  rintro⟨Z,F,rfl,O,J,W⟩;rfl';show(_,_,_,rfl,ba.same O,?_,kB PL (by decide),λb3 bp=>q b3 (O.trans bp));unfold yD;show(D,F,rfl,J,by rw[fA];omega,bT W ok)
structure Cx (A:cE) (H:Hp) (z:Ss) (s:St) (L:Lb) (pl fl sl:Addr) (p:St):Prop where
 ss:xC A.Aa A.Ad A.Ac H z s
 ap:Ap s
 tw:Tw s
 bx:Bx s
 l0:∀c∈z.four,L c=0
 lb:∀r,some r∈s.fr\/some r∈s.sr->L r.bx=0
 lp:Lp H L pl fl sl p
 si:QD s p
 ok:∀r,some r∈s.fr\/some r∈s.sr->jH r/\r.ks≠[]/\r.b.length<=64
section
variable {A:cE} {H H':Hp} {z:Ss} {s s':St} {L L':Lb} {pl fl sl:Addr} {p p':St}
structure Cs (A:cE) (H:Hp) (z:Ss) (s:St) (L:Lb):Prop where
 ss:xC A.Aa A.Ad A.Ac H z s
 l0:∀c∈z.four,L c=0
 lb:∀r,some r∈s.fr\/some r∈s.sr->L r.bx=0
theorem Cx.cs (h:Cx A H z s L pl fl sl p):Cs A H z s L:=(h.ss,h.l0,h.lb)
theorem Cs.mv {N:!Nat} (h:Cs A H z s L) (m:Mv N L L' H H') (l:Lv L H) (D:0∉N):Cs A H' z s L':=by
 show(h.ss.mv m l D h.l0 h.lb,λc j=>?_,λr q=>?_)
 .let(us,e):=h.ss.fours c j;rw[m.lx.at e];show h.l0 c j
 .rw[m.lx.at (h.ss.bxl q)];show h.lb r q
theorem Cx.law {N:!Nat} (h:Cx A H z s L pl fl sl p) (m:Mv N L L' H H') (j:0∉N) (l:Lp H' L' pl fl sl p') (e:QD s p'):Cx A H' z s L' pl fl sl p':=
 letI c:=h.cs.mv m h.lp.q.lv j;(c.ss,h.ap,h.tw,h.bx,c.l0,c.lb,l,e,h.ok)
theorem Cx.same (h:Cx A H z s L pl fl sl p) (e:pC H H'):Cx A H' z s L pl fl sl p:=(h.ss.same e,h.ap,h.tw,h.bx,h.l0,h.lb,h.lp.same e,h.si,h.ok)
theorem Cx.new (h:Cx A H z s L pl fl sl p) {a:Addr} {k:Nat} {us:!V} (j:H a=none):Cx A (upd H a (.lst us)) z s (Pf.lab L a k) pl fl sl p:=h.law (N:=[]) (Mv.new j) (by simp) (h.lp.new j) h.si
theorem Cx.lab (h:Cx A H z s L pl fl sl p) {a:Addr} {k:Nat} {us:!V} (e:pC H H') (j:H a=none) (g:H' a>(.lst us)):Cx A H' z s (Pf.lab L a k) pl fl sl p:=h.law (N:=[]) (Mv.lab e j) (by simp) (h.lp.lab e j g) h.si
theorem Cx.set (h:Cx A H z s L pl fl sl p) {a:Addr} {us us':!V} (q:H a>(.lst us)) (F:4 < L a):Cx A (upd H a (.lst us')) z s L pl fl sl p:=by
 let m:Mv [L a] L L H (upd H a (.lst us')):=Mv.set q (nA.mpr rfl);let j:0∉[L a]:=by simp;omega
 show h.law m j ?_ h.si;show⟨h.lp.q.zs (m.zv h.lp.q.lv j) (λk D=>by rw[nA.mp D];show F) h.lp.q.lv.set,h.lp.tw⟩
theorem Cx.okf (h:Cx A H z s L pl fl sl p):∀r,some r∈p.fr->LH r.ks/\r.ks≠[]:=λw F=>by
 let(i,q):=IA.mp F;let(r,D,j):=nG h.si.fr q;cases r with
 |none=>show j.elim
 |some r=>
  let(J,O,_):=h.ok r (.inl (dA D));show⟨LH.pm j.2 J,λe=>O (by have:=j.2;rw[e] at this;show this.nil_eq.symm)⟩
theorem Cx.len (h:Cx A H z s L pl fl sl p):p.fr.length=s.fr.length/\p.sr.length=s.sr.length:=⟨(Paired.length h.si.fr).symm,(Paired.length h.si.sr).symm⟩
theorem jH.ms {r:Sh} (h:jH r):(zD r.ks).length<=64/\∀k∈zD r.ks,k.length<=64:=by
 let(D,F,j):=h;show⟨by rw[JG.length_eq];omega,λk q=>?_⟩;let(s,a,b,rfl):=j k (JG.mem_iff.mp q);change 3<=64;decide
theorem Cx.oks (h:Cx A H z s L pl fl sl p):bK s.fr/\bK s.sr:=⟨λr j=>let ⟨a,_,c⟩:=h.ok r (.inl j);(a,c,a.ms),λr j=>let ⟨a,_,c⟩:=h.ok r (.inr j);(a,c,a.ms)⟩
theorem Cx.tf (h:Cx A H z s L pl fl sl p):∃us,H fl>(.lst us)/\us.length=(tF s).length/\∀(i:Nat) t,(tF s)[i]?>t->∃v,us[i]?>v/\RT H v t:=by
 let(us,W,a2,Z):=h.lp.q.hf;let a4:=h.lp.q.ln;let a3:=h.len;let a5:=h.ss.lens;show(us,W,by unfold tF;rw[bC];omega,λi t j=>?_);unfold tF at j;rw[List.getElem?_zipWith] at j;cases q:s.fr[i]? with
 |none=>rw[q] at j;cases j
 |some r=>
  cases F:s.tf[i]? with
  |none=>rw[q,F] at j;cases j
  |some o=>
   rw[q,F] at j;obtain rfl:KP r o=t:=bA j;let(y,a1,D):=QG h.si.fr q;let(v,a0,J):=Z i y o a1 (by rw[h.si.tf];show F);show(v,a0,?_);cases r with
   |none=>
    cases y with
    |none=>show J
    |some w=>show D.elim
   |some r=>
    cases y with
    |none=>show D.elim
    |some w=>
     let(e,O,U,V,_):=J;let ok:=(h.ok r (.inl (dA q))).1;show(w.sh,w.bx,w.hd,w.ks,e,O,by rw[<-D.1];show U,V,LH.pm D.2 ok,pT D.2 ok)
theorem Cx.ts (h:Cx A H z s L pl fl sl p):∃us,H sl>(.lst us)/\us.length=(tS s).length/\∀(i:Nat) t,(tS s)[i]?>t->∃v,us[i]?>v/\RT H v t:=by
 let(us,Z,a5,a0):=h.lp.q.hs;let a7:=h.lp.q.ln;let a6:=h.len;let a8:=h.ss.lens;show(us,Z,by unfold tS;rw[bC];omega,λi t j=>?_);unfold tS at j;rw[List.getElem?_zipWith] at j;cases q:s.sr[i]? with
 |none=>rw[q] at j;cases j
 |some r=>
  cases F:s.ts[i]? with
  |none=>rw[q,F] at j;cases j
  |some o=>
   rw[q,F] at j;obtain rfl:uO s.fr r o=t:=bA j;let(y,a4,D):=QG h.si.sr q;let(v,a3,V):=a0 i y o a4 (by rw[h.si.ts];show F);show(v,a3,?_);cases r with
   |none=>
    cases y with
    |some w=>show D.elim
    |none=>
     cases o with
     |none=>show V
     |some k=>
      let(a,W,a1,e,J,O,U,_):=V;show(a,W,a1,[],e,J,by rw[<-h.si.bof];show O,([],U,.nil),(by decide,UB,λk a2=>by cases a2),rfl)
   |some r=>
    cases y with
    |none=>show D.elim
    |some w=>
     let(e,J,O,U,_):=V;let ok:=(h.ok r (.inr (dA q))).1;show(w.sh,w.bx,w.hd,w.ks,e,J,by rw[<-D.1];show O,U,LH.pm D.2 ok,pT D.2 ok)
theorem Cx.zv (h:Cx A H z s L pl fl sl p) {k:Ks z H H'} (h':xC A.Aa A.Ad A.Ac H' z s'):Zv [] L L H H':=Zv.ks h.ss h' k.kd h.l0 h.lp.q.lv (k.dm h.ss h')
end
theorem eJ.ow {o D:Option (Nat×Sh)} (h:eJ o D) (ok:∀j q,o>(j,q)->jH q):oW D=oW o:=by
 cases o with
 |none=>cases D with
  |none=>rfl
  |some _=>show h.elim
 |some x=>cases D with
  |none=>show h.elim
  |some y=>
   let(a,b):=x;let(c,F):=y;let(rfl,_,J):=h;change some (a,zD F.ks)>(a,zD b.ks);rw[pT J (ok a b rfl)]
theorem vI.hd {p D:St} {c:Option Nat} {ms:!Bool} {i:Nat} {W:!Int} {out:Option (Nat×Sh)} (h:vI p c ms D i W out) (U:∀j q,out>(j,q)->p.sr[j]?>none):(dG D).Perm (dG p):=by
 let(O,rfl,_,rfl)||(O,q,j,a,a1,V,a0,Z,rfl,rfl):=h
 .show mB _
 .let(F,J,_):=sI (s:={p with h:=(i+1) % p.fr.length}) (i:=i) (j:=j) (r:={q with sh:=a});unfold dG;rw[F,J,eF,eF];show ((mB _).append (qI (U j q rfl))).trans ?_;show ZA.trans ((WJ V).symm.append_right _)
theorem Lp.ks {H:Hp} {J:Lb} {pl aa ah:Addr} {p:St} {f:Bool} {j:Nat} {w:Sh} {ks':!(!Key)} {us':!V} (h:Lp H J pl aa ah p) (a8:Ap p) (F:(p.rw f)[j]?>(some w)) (nk:w.ks≠[]) (ax:Paired (λv k=>∃a,v=V.ref a/\H a>(.tup (k.map kV))) us' ks'):Lp (upd H w.hd (.lst us')) J pl aa ah (p.put f j (some {w with ks:=ks'})):=by
 let q:=h.q;let(us,au,av,a7):=q.hf;let(a9,aq,ar,ab):=q.hs;let(az,b0,l3):=q.l1;obtain⟨vs,ai,b4,b1⟩:∃vs,H w.hd>(.lst vs)/\vs≠[]/\J w.hd=4:=by
  let go:vF H w.hd w.ks->J w.hd=4->∃vs,H w.hd>(.lst vs)/\vs≠[]/\J w.hd=4:=λ⟨vs,a,b⟩ c=>(vs,a,λe=>by
   rw[e] at b;generalize w.ks=ks at *;cases b;show nk rfl,c)
  cases f with
  |true=>
   let b5:=(aA.mp (show p.fr[j]?>(some w) from F)).1;let(v,e,f):=a7 j _ _ F (cA (by have:=q.ln.1;omega));show go f.2.2.2.1 f.2.2.2.2.2.2
  |false=>
   let(_,_,_,_,f):=h.slot (show p.sr[j]?>(some w) from F);show go f.2.2.2.1 f.2.2.2.2.2.2
 let ad:∀c us,H c>(.tup us)->upd H w.hd (.lst us') c>(.tup us):=λc us a6=>by rw[sC (HD a6 ai nofun)];show a6
 let U:∀{c o},H c>o->J c≠4->upd H w.hd (.lst us') c>o:=λa6 O=>by rw[sC (λe=>O (by rw[e];show b1))];show a6
 let tw:vF (upd H w.hd (.lst us')) w.hd ks':=(us',HC,Paired.mapP ax λ_ _ ⟨a,e,q⟩=>(a,e,ad _ _ q))
 let k1:∀{v r o},RF H J v (some r) o->r.hd≠w.hd->RF (upd H w.hd (.lst us')) J v (some r) o:=λ⟨e,a3,a4,a1,Z,a0,a5⟩ O=>(e,U a3 (by rw[Z];decide),U a4 (by rw[a0];decide),a1.to (λus ay=>by rw[sC O];show ay) ad,Z,a0,a5)
 let k2:∀{v o},RF H J v (some w) o->RF (upd H w.hd (.lst us')) J v (some {w with ks:=ks'}) o:=λ⟨e,a3,a4,a1,Z,a0,a5⟩=>(e,U a3 (by rw[Z];decide),U a4 (by rw[a0];decide),tw,Z,a0,a5)
 let k3:∀{v B i},RS H J B v none (some i)->RS (upd H w.hd (.lst us')) J B v none (some i):=λ⟨a,aj,aw,e,a3,a4,a1,Z,a0,a5⟩=>(a,aj,aw,e,U a3 (by rw[Z];decide),U a4 (by rw[a0];decide),by
  rw[sC (λe=>b4 (by rw[e,ai] at a1;show HO.lst.inj (bA a1)))];show a1,Z,a0,a5)
 let am:∀x,pE (p.fr.set j (some {w with ks:=ks'})) x=(if f=true then pE p.fr x else pE (p.fr.set j (some {w with ks:=ks'})) x):=λx=>by
  cases f with
  |false=>rfl
  |true=>
   let F:p.fr[j]?>(some w):=F;change _=pE p.fr x;unfold pE;rw[oA];by_cases c:j=x
   .subst c;rw[iA rfl,iA (aA.mp F).1,F]
   .rw[gA c]
 let ac:∀(f':Bool) (x:Nat) (r:Sh),(p.rw f')[x]?>(some r)->¬(f'=f/\x=j)->r.hd≠w.hd:=λf' x r D O=>by
  unfold Ap at a8;rw[eF] at a8;let(b2,b3,ag):=KA.mp a8;cases f with
  |true=>
   cases f' with
   |true=>show AM b2 F D λe=>O ⟨rfl,e⟩
   |false=>show λe=>ag w.hd (vG.mpr (w,dA F,rfl)) r.hd (vG.mpr (r,dA D,rfl)) e.symm
  |false=>
   cases f' with
   |true=>show λe=>ag r.hd (vG.mpr (r,dA D,rfl)) w.hd (vG.mpr (w,dA F,rfl)) e
   |false=>show AM b3 F D λe=>O ⟨rfl,e⟩
 let ao:∀(i:Nat) r o,(p.put f j (some {w with ks:=ks'})).fr[i]?>r->p.tf[i]?>o->∃v,us[i]?>v/\RF (upd H w.hd (.lst us')) J v r o:=λi r o D a2=>by
  let ZE:p.fr[i]?>r->¬(true=f/\i=j)->∃v,us[i]?>v/\RF (upd H w.hd (.lst us')) J v r o:=λD O=>by
   let(v,e,x):=a7 i r o D a2;show(v,e,?_);cases r with
   |none=>show x
   |some r=>show k1 x (ac true i r D O)
  cases f with
  |false=>show ZE D (λW=>by cases W.1)
  |true=>
   let D:(p.fr.set j (some {w with ks:=ks'}))[i]?>r:=D;let F:p.fr[j]?>(some w):=F;rw[oA] at D;by_cases c:j=i
   .subst c;rw[iA rfl,iA (aA.mp F).1] at D;obtain rfl:=bA D;let(v,e,x):=a7 j _ o F a2;show(v,e,k2 x)
   .rw[gA c] at D;show ZE D λW=>c W.2.symm
 let ap:∀(i:Nat) r o,(p.put f j (some {w with ks:=ks'})).sr[i]?>r->p.ts[i]?>o->∃v,a9[i]?>v/\RS (upd H w.hd (.lst us')) J (pE p.fr) v r o:=λi r o D a2=>by
  let ZE:p.sr[i]?>r->¬(false=f/\i=j)->∃v,a9[i]?>v/\RS (upd H w.hd (.lst us')) J (pE p.fr) v r o:=λD O=>by
   let(v,e,x):=ab i r o D a2;show(v,e,?_);cases r with
   |some r=>show k1 (o:=none) x (ac false i r D O)
   |none=>
    cases o with
    |none=>show x
    |some _=>show k3 x
  cases f with
  |true=>show ZE D (λW=>by cases W.1)
  |false=>
   let D:(p.sr.set j (some {w with ks:=ks'}))[i]?>r:=D;let F:p.sr[j]?>(some w):=F;rw[oA] at D;by_cases c:j=i
   .subst c;rw[iA rfl,iA (aA.mp F).1] at D;obtain rfl:=bA D;let(v,e,x):=ab j _ o F a2;show(v,e,k2 (o:=none) x)
   .rw[gA c] at D;show ZE D λW=>c W.2.symm
 let af:∀f',((p.put f j (some {w with ks:=ks'})).rw f').length=(p.rw f').length:=λf'=>by cases f<;>cases f'<;>first|rfl|exact rA
 let lt:=af true;let ae:=af false;show⟨(?_,(us,U au (by rw[b0];decide),av.trans lt.symm,?_),(a9,U aq (by rw[l3];decide),ar.trans ae.symm,?_),q.l1,q.ne,?_,q.lv.set),h.tw.put F⟩
 .have:(p.put f j (some {w with ks:=ks'})).h=p.h:=by cases f<;>rfl
  rw[this];show U q.hp (by rw[az];decide)
 .have:(p.put f j (some {w with ks:=ks'})).tf=p.tf:=by cases f<;>rfl
  rw[this];show ao
 .have:(p.put f j (some {w with ks:=ks'})).ts=p.ts:=by cases f<;>rfl
  rw[this];let e:pE (p.put f j (some {w with ks:=ks'})).fr=pE p.fr:=by
   cases f with
   |false=>rfl
   |true=>funext x;show (am x).trans rfl
  rw[e];show ap
 .let ak:(p.put f j (some {w with ks:=ks'})).tf=p.tf:=by cases f<;>rfl
  let al:(p.put f j (some {w with ks:=ks'})).ts=p.ts:=by cases f<;>rfl
  rw[ak,al];show⟨q.ln.1.trans lt.symm,q.ln.2.trans ae.symm⟩
def FM (K:W.Frag) (G:Hp) (L:Lb) (a:Addr) (xs:!V):Prop:=(G a>(.lst xs)/\L a=5)\/(∃o,G a>(.frz o (.lst xs)))\/∀G',uC K G' a xs
theorem FM.zv {K:W.Frag} {S:!Nat} {G j:Hp} {q D:Lb} {a:Addr} {xs:!V} (h:FM K G q a xs) (F:Zv S q D G j) (J:5∉S):FM K j D a xs:=by
 let h||(o,h)||h:=h
 .show .inl (F.lst h.1 h.2 (by decide) J)
 .show .inr (.inl ⟨o,F.kz _ _ h (.inl ⟨_,.inr ⟨_,rfl⟩⟩)⟩)
 .show .inr (.inr h)
theorem FM.of {K:W.Frag} {G:Hp} {a:Addr} {xs:!V} (h:uC K G a xs):∃j,FM K G j a xs/\Lv j G/\∀c,j c=0\/j c=5:=by
 let q:Lv (λο=>0) G:=λc D=>absurd rfl D;rcases h with (h|h)|h
 .show(lab (λο=>0) a 5,.inl ⟨h,NH⟩,q.lab vD h,λc=>?_);by_cases e:c=a
  .rw[e];show .inr NH
  .rw[qH e];show .inl rfl
 .show(λο=>0,.inr (.inl h),q,λο=>.inl rfl)
 .show(λο=>0,.inr (.inr λο=>.inr h),q,λο=>.inl rfl)
theorem Lp.hdl {H:Hp} {D:Lb} {pl F U:Addr} {p:St} (h:Lp H D pl F U p) {a:Addr} (O:a∈dG p):∃us,H a>(.lst us):=by
 let(r,j,rfl):=vG.mp O;let j||j:=UA.mp j
 .let(i,q):=IA.mp j;let V:=(aA.mp q).1;let(us,_,_,J):=h.q.hf;let(_,_,_,_,_,(vs,e,_),_):=J i _ _ q (cA (by have:=h.q.ln.1;omega));show⟨vs,e⟩
 .let(i,q):=IA.mp j;let(_,_,_,_,_,_,_,(vs,e,_),_):=h.slot q;show⟨vs,e⟩
theorem GM {n j:Nat} (h:j < n):zH n (j:Int)>j:=by unfold zH;rw[iA ⋯,iA ⋯];rfl
theorem fJ {q:Type} {l:!q} {j:Nat} {x:q} (h:l[j]?>x):l.set j x=l:=by
 let(D,F):=aA.mp h;rw[<-F];show SB D
def AE (H:Hp) (sl:Addr) (r:Sh) (ws:!V):Option Nat->Hp
 |none=>H
 |some k=>upd (upd H sl (.lst (ws.set k .non))) r.sh (.lst [.ref r.bx,.ref r.hd,.non])
def sp_unt:Sp:=λvs H Q ο=>∃(pl fl sl:Addr) (us ws:!V) (h:Int) (i:Nat) (r:Sh) (o:Option Nat),vs=[.ref pl,.int (i:Int)]/\H pl>(.lst [.ref fl,.ref sl,.int h])/\H fl>(.lst us)/\H sl>(.lst ws)/\us[i]?=↑r.sh/\H r.sh>(.lst [.ref r.bx,.ref r.hd,oV o])/\pl≠sl/\fl≠sl/\r.sh≠sl/\(∀k,o>k->k < ws.length)/\Q .non (AE H sl r ws o)
theorem qT (T:LD K mg A):oE P w K mg base "_law_untwinned" 1 ["_law_plain","_law_frame"] [] sp_unt:=by
 show T.D8.have Z4 (λvs H Q E Z=>?_) ?_
 .let(pl,D,J,us,W,h,i,r,o,rfl,_):=Z;rfl
 .intro f a8 a7 aa s H vs Q E a9 Z;let(pl,D,J,us,W,h,i,r,o,rfl,F,U,a0,V,O,a4,a5,a6,a2,q):=Z;show(_,(FC (JD (CD wH (BC LC (BC LC (BC LC (lC 0) yC (λο ο=>rfl)) (lC 1) (λο ο=>rfl)) yC (λο ο=>rfl)) BD (rC _)) (OC (mF BD (lF (BC LC (lC 0) yC (λο ο=>rfl)) (BC LC (BC LC (BC LC (lC 0) yC (λο ο=>rfl)) (lC 1) (λο ο=>rfl)) yC (λο ο=>rfl)) oF))
   (FC (mF BD (lF (BC LC (BC LC (lC 0) yC (λο ο=>rfl)) (lC 1) (λο ο=>rfl)) yC oF)))) KD)),?_)
  rfl';show(_,uC.of F,_,CC (j:=0) rfl,D,rfl,_,uC.of U,_,CC V,r.sh,rfl,_,uC.of O,_,CC (j:=2) rfl,?_);cases o with
  |none=>
   rw[gA (by simp[oV])];show q
  |some k=>
   rw[iA (by simp[oV])];let k2:∀{c o},H c>o->c≠J->upd H J (.lst (W.set k .non)) c>o:=λa1 a3=>by rw[sC a3];show a1
   show(_,uC.of F,_,CC (j:=1) rfl,_,uC.of F,_,CC (j:=0) rfl,D,rfl,_,uC.of U,_,CC V,r.sh,rfl,_,uC.of O,_,CC (j:=2) rfl,J,rfl,W,k,rfl,a0,k,GM (a2 k rfl),_,uC.of (k2 F a4),_,CC (j:=0) rfl,D,rfl,_,uC.of (k2 U a5),_,CC V,r.sh,rfl,_,k2 O a6,2,rfl,q)
theorem Lp.ut {Q:VK} {E:XK} {H:Hp} {a2:Lb} {pl J F:Addr} {p:St} {i:Nat} {r:Sh} (j:Lp H a2 pl J F p) (a0:p.fr[i]?>(some r)) (q:∀o D,p.tf[i]?>o->H F>(.lst D)->D.length=p.sr.length->H r.sh>(.lst [.ref r.bx,.ref r.hd,oV o])->(∀us,H J>(.lst us)->us[i]?=↑r.sh)->Q .non (AE H F r D o)):sp_unt [.ref pl,.int (i:Int)] H Q E:=by
 let(us,Z,ab,a4):=j.q.hf;let(D,W,a3,aa):=j.q.hs;let(af,ag):=j.q.ln;let(ad,ae,l3):=j.q.l1;let ac:=(aA.mp a0).1;obtain⟨o,O⟩:∃o,p.tf[i]?>o:=⟨_,cA ⋯⟩
 let(v,a1,a5):=a4 i _ _ a0 O;let(rfl,U,a6,a7,V,a8,a9):=id a5;show(pl,J,F,us,D,_,i,r,o,rfl,j.q.hp,Z,W,a1,U,j.q.ne.2.1,j.q.ne.2.2,(λe=>by rw[e,l3] at V;cases V),λk e=>?_,q o D O W a3 U λus' e=>by rw[Z] at e;cases e;show a1);subst e;have:=(aA.mp (j.tw.bare i k (j.tw.there i k O))).1;omega
theorem Lp.unt {H:Hp} {D:Lb} {pl Z F:Addr} {p:St} {i:Nat} {r:Sh} {o:Option Nat} {O:!V} (q:Lp H D pl Z F p) (a1:p.fr[i]?>(some r)) (J:p.tf[i]?>o) (a0:H F>(.lst O)) (a4:H r.sh>(.lst [.ref r.bx,.ref r.hd,oV o])) (aa:r.ks≠[]):Lp (AE H F r O o) D pl Z F (untie p i)/\Mv [1,2] D D H (AE H F r O o):=by
 let(ag,ah,l3):=q.q.l1;let(us,ad,ae,a6):=q.q.hf;let(v,af,a7):=a6 i _ _ a1 J;let W:=a7.2.2.2.2.1;cases o with
 |none=>
  rw[ZJ (λk U=>by let U:p.tf[i]?>(some k):=U;rw[J] at U;cases U)];show⟨q,Mv.of vD⟩
 |some k=>
  let a2:=q.tw.there i k J;let a9:=q.tw.bare i k a2;let a3:=q.q.slot a0 (j:=k) (v:=.non) (r:=none) (o:=none) rfl;let ab:Mv [1,2] D D _ _:=Mv.set (us':=O.set k .non) a0 (by rw[l3];simp);rw[fJ a9] at a3;let a5:upd H F (.lst (O.set k .non)) r.sh>(.lst [.ref r.bx,.ref r.hd,oV (some k)]):=by rw[sC (λe=>by rw[e,l3] at W;cases W)];show a4
  let ac:=a3.untw a1 J (λa a8=>by have:=q.tw.there a k a8;rw[a2] at this;show (bA (bA this)).symm) aa;let e:untie p i=(p.tie true i none).tie false k none:=BM J;show⟨⟨by rw[e];show ac,q.tw.untie⟩,ab.trans (Mv.set (us':=[.ref r.bx,.ref r.hd,.non]) a5 (by rw[W];simp))⟩
def rH (rows:!(Option Sh)) (n:Nat):!Nat:=(List.range n).filter λk=>((rows[k]?).getD none).isSome
def TD (rows:!(Option Sh)):!Nat:=rH rows rows.length
def oG (rows:!(Option Sh)):!V:=(TD rows).map λ(k:Nat)=>V.int (k:Int)
theorem rT {rows:!(Option Sh)} {k:Nat} {r:Sh} (h:rows[k]?>(some r)):rH rows (k+1)=rH rows k++[k]:=by
 unfold rH;rw[List.range_succ,TB,nB (by rw[h];rfl),List.filter_nil]
theorem RP {rows:!(Option Sh)} {k:Nat} (h:rows[k]?>none):rH rows (k+1)=rH rows k:=by
 unfold rH;rw[List.range_succ,TB,fB (by rw[h];decide),List.filter_nil,iC]
theorem HM {rows:!(Option Sh)} {k:Nat}:(rH rows k).length<=k:=by
 unfold rH;have:=gC (λk=>((rows[k]?).getD none).isSome) (List.range k);rw[WA] at this;show this
theorem UP {rows:!(Option Sh)} {k:Nat} (h:k∈TD rows):∃r,rows[k]?>(some r):=by
 unfold TD rH at h;have:=(yB.mp h).2;cases e:rows[k]? with
 |none=>rw[e] at this;cases this
 |some o=>cases o with
  |none=>rw[e] at this;cases this
  |some r=>show⟨r,rfl⟩
def sp_plc:Sp:=λvs H Q ο=>∃(pl fl sl:Addr) (L:Lb) (p:St) (f:Bool),vs=[.ref pl,.str (EE f)]/\Lp H L pl fl sl p/\p.fr.length<=64/\p.sr.length<=64/\∀H' l,pC H H'->H l=none->H' l>(.lst (oG (p.rw f)))->Q (.ref l) H'
theorem VP (T:LD K mg A):oE P w K mg base "_law_places" 1 ["_law_plain","_law_word"] [] sp_plc:=by
 show T.Ey.have FX (λvs H Q E J=>?_) ?_
 .let(pl,aa,ab,ag,p,f,rfl,_):=J;rfl
 .intro aq ap am b1 s H vs Q E ay J;let(pl,aa,ab,ag,p,f,rfl,a3,aw,ax,q):=J;let hz:=PySem.sizeLine_eq;show(_,(OC (mD (i:=2) FX.nd rfl (Or.inr rfl) (BC LC (lC 0) (aH lN rfl T.Bf DB (nC (xH bF (lC 1) wE (rC _)) wC)) (λο ο=>rfl)))
   (FC (sD (FH rfl (iG rfl T.Aq (nC (MD BE rfl T.Aj PySem.boot_len (nC (lC 2) wC)) wC)) (x:="_law_k") (fs:=["_law_word","_law_row"]) (ix:=[1,2]) rfl rfl (λο ο ο ο ο ο=>(jE (i:=0) (show (["_law_k","_law_word","_law_row"]:!Str).Nodup by decide+kernel) rfl (Or.inl rfl))) (λο ο ο ο ο ο=>(EW (PW.pt (uH (CD wH (BC (ZQ (K:=K) rfl) (lC 2) (lC 0) (λο ο=>rfl)) BD (rC _)) (tH (PW.pt (SM (CD bF (lC 1) wE (rC _)) (RM (CD yG (BC (ZQ (K:=K) rfl) (BC (ZQ (K:=K) rfl) (lC 2) (lC 0) (λο ο=>rfl)) yC (λο ο=>rfl)) BD (rC _)))))))))) (λο ο ο ο ο ο=>(lC 0)))))),?_)
  rfl';let(us,ad,au,ai):=a3.q.hf;let(al,a7,ar,ah):=a3.q.hs;let(az,b0):=a3.q.ln;cases f with
  |true=>
   show .inr (_,uC.of a3.q.hp,.ref aa,by rw[gA ∅];show CC (j:=0) rfl,_,.inl (_,uC.of ad,rfl),⋯,⋯,λa2 Z=>?_);show PH (λi O a0 W=>∃v,a0=[v,some (.str (EE true)),↑aa]/\pC H W/\W a2>(.lst O)/\O=(rH p.fr i).map λ(k:Nat)=>V.int (k:Int)) (_,rfl,gE vD Z,HC,rfl) (λi O a0 W a4=>?_) (λO a0 a9=>?_)
   .rintro⟨v,rfl,D,F,rfl⟩;let a4:i < p.fr.length:=⋯;obtain⟨a6,U⟩:∃r,p.fr[i]?>r:=⟨_,cA a4⟩
    let(ac,a5,a1):=ai i a6 _ U (cA ⋯);rfl';rw[pB];show(_,uC.of (D _ _ ad),_,CC a5,?_);cases a6 with
    |none=>
     obtain rfl:ac=.non:=a1;show aJ (by rw[BA rfl];rfl) (D,F,by rw[RP U])
    |some af=>
     let(rfl,a8,_):=a1;show pI (by rw[zA nofun];rfl) ?_;have:=HM (rows:=p.fr) (k:=i);rw[iA (show EE true=Str.ofString "frame" from rfl)];show(F,by rw[fA];omega,qF D Z,by rw[rT U,MA];rfl)
   .rintro⟨v,rfl,D,F,rfl⟩;rw[show (((us.length:Nat):Int)).toNat=p.fr.length by omega] at F;show q a9 a2 D Z F
  |false=>
   show .inr (_,uC.of a3.q.hp,.ref ab,by rw[iA (show EE false=Str.ofString "slot" from rfl)];show CC (j:=1) rfl,_,.inl (_,uC.of a7,rfl),⋯,⋯,λa2 Z=>?_);show PH (λi O a0 W=>∃v,a0=[v,some (.str (EE false)),↑ab]/\pC H W/\W a2>(.lst O)/\O=(rH p.sr i).map λ(k:Nat)=>V.int (k:Int)) (_,rfl,gE vD Z,HC,rfl) (λi O a0 W a4=>?_) (λO a0 a9=>?_)
   .rintro⟨v,rfl,D,F,rfl⟩;let a4:i < p.sr.length:=⋯;obtain⟨a6,U⟩:∃r,p.sr[i]?>r:=⟨_,cA a4⟩
    obtain⟨ae,aj⟩:∃o,p.ts[i]?>o:=⟨_,cA ⋯⟩
    let(ac,a5,a1):=ah i a6 ae U aj;have:=HM (rows:=p.sr) (k:=i);rfl';rw[pB];show(_,uC.of (D _ _ a7),_,CC a5,?_);cases a6 with
    |none=>
     cases ae with
     |none=>
      obtain rfl:ac=.non:=a1;show aJ (by rw[BA rfl];rfl) (D,F,by rw[RP U])
     |some b=>
      let(ak,ao,av,rfl,a8,_):=a1;show pI (by rw[zA nofun];rfl) ?_;rw[gA ∅];show(_,uC.of (D _ _ a7),_,CC a5,ak,rfl,_,uC.of (D _ _ a8),_,CC (j:=2) rfl,?_);rw[gA nofun];show(D,F,by rw[RP U])
    |some af=>
     let(rfl,a8,_):=a1;show pI (by rw[zA nofun];rfl) ?_;rw[gA ∅];show(_,uC.of (D _ _ a7),_,CC a5,af.sh,rfl,_,uC.of (D _ _ a8),_,CC (j:=2) rfl,?_);rw[iA (show oV none=V.non from rfl)];show(F,by rw[fA];omega,qF D Z,by rw[rT U,MA];rfl)
   .rintro⟨v,rfl,D,F,rfl⟩;rw[show (((al.length:Nat):Int)).toNat=p.sr.length by omega] at F;show q a9 a2 D Z F
theorem IM {j:Type} {l:!j} {i:Nat} {x:j} (h:l[i]?>x):l.take (i+1)=l.take i++[x]:=by rw[uB,h];rfl
theorem M6 {rows:!(Option Sh)} {k:Nat} {r:Sh} (h:rows[k]?>(some r)):VE (rows.take (k+1))=VE (rows.take k)+1:=by
 unfold VE;rw[IM h,TB,jA]
 rfl
theorem SL {rows:!(Option Sh)} {k:Nat} (h:rows[k]?>none):VE (rows.take (k+1))=VE (rows.take k):=by
 unfold VE;rw[IM h,TB,jA]
 rfl
theorem WP {a b:!(Option Sh)} (h:Paired vE a b):VE a=VE b:=by
 unfold VE
 induction h with
 |nil=>rfl
 |@cons x y _ _ h t ih=>
  cases x<;>cases y
  .show ih
  .show h.elim
  .show h.elim
  .rw[List.filter_cons,List.filter_cons];simp only[Option.isSome_some,if_true,NA];rw[ih]
theorem AY {rows:!(Option Sh)}:∀n,n<=rows.length->(rH rows n).length=VE (rows.take n)
 |0,_=>by unfold rH;simp[VE]
 |n+1,h=>by
  let ih:=AY (rows:=rows) n ⋯;obtain⟨o,ho⟩:∃o,rows[n]?>o:=⟨_,cA (l:=rows) ⋯⟩
  cases o with
  |none=>rw[RP ho,ih,SL ho]
  |some r=>rw[rT ho,jA,ih,M6 ho];rfl
theorem ZP {rows:!(Option Sh)}:(oG rows).length=VE rows:=by
 unfold oG TD;rw[fA,AY _ (pA _),eB]
def sp_lfr:Sp:=λvs H Q ο=>∃(pl fl sl sh0 h mk:Addr) (L:Lb) (p:St) (bs:!Int) (k:!Key) (ms:!Bool),vs=[.ref pl,.ref sh0,.ref h,.ref mk]/\Lp H L pl fl sl p/\Ap p/\H sh0>(.lst (bs.map V.int))/\L sh0∉[1,2]/\H h>(.tup (k.map kV))/\H mk>(.lst (ms.map V.bl))/\L mk∉[1,2]/\ms.length=p.fr.length/\p.h < p.fr.length/\p.fr.length<=64/\p.sr.length<=64/\(∀r,some r∈p.fr->LH r.ks/\r.ks≠[])/\
 if fD p < room p then ∀H' L' p1 i ps out t e v3 w,vI p none ms p1 i ps out->Lp H' L' pl fl sl {p1 with fr:=p1.fr.set i (some w)}->Ap {p1 with fr:=p1.fr.set i (some w)}->w.b=bs->w.ks=[k]->Mv [1,2] L L' H H'->H' t>(.tup [.int (i:Int),.ref e,v3])->H' e>(.lst (ps.map V.int))->jF H' L' v3 out->L' e=5->Q (.ref t) H'
 else ∀H',pC H H'->Q (.str "NoRoom") H'
theorem iK (T:LD K mg A):oE P w K mg base "_law_fresh" 4 ["_law_plain","_law_sheet_here","_law_holder","_law_marks"] [] sp_lfr:=by
 show T.Fa.have HX (λvs H Q E a4=>?_) ?_
 .let(pl,a1,ae,b4,h,mk,a5,p,bs,k,ms,rfl,_):=a4;rfl
 .intro f cm cj d7 s H vs Q E ao a4;let(pl,a1,ae,b4,h,mk,a5,p,bs,k,ms,rfl,O,bi,bz,bt,hh,bu,br,bv,bx,ak,al,bw,q):=a4;show(_,(OC (JD (CD bF (KC nF (MD BE rfl T.Aj PySem.boot_len (nC (XD (VP T) (-ao) WC (nC (lC 0) (nC wE wC))) wC)) (MD BE rfl T.Aj PySem.boot_len (nC (XD (VP T) (-ao) WC (nC (lC 0) (nC wE wC))) wC))) (KC nF (MD BE rfl T.Aj PySem.boot_len (nC (BC LC (lC 0) yC (λο ο=>rfl)) wC)) (MD BE rfl T.Aj PySem.boot_len (nC (BC LC (lC 0) yC (λο ο=>rfl)) wC))) (rC _)) (FC (sD wE)) KD)
   (OC (mD (i:=4) HX.nd rfl (Or.inl rfl) (XD (wY T) (-ao) WC (nC (lC 0) (nC (lC 3) (nC BD wC)))))
   (OC (mF (cF (nC (aH tJ rfl T.A7 bB (nC (lC 1) wC)) (nC (cF (nC (lC 2) wC)) (nC BD wC)))) (lF (BC LC (lC 0) yC (λο ο=>rfl)) (BC ND (lC 4) yC (λο ο=>rfl)) oF))
   (FC (sD (lC 4)))))),?_)
  rfl';let(us,bh,ax,cx):=O.q.hf;let(ch,bg,cv,cw):=O.q.hs;show(pl,a1,ae,a5,p,true,rfl,O,ak,al,λck c0 s1 cz a9=>(_,.inl (_,uC.of a9,rfl),pl,a1,ae,a5,p,false,rfl,O.same s1,ak,al,λb9 c1 cc d1 aa=>(_,.inl (_,uC.of aa,rfl),?_)));let W:=s1.trans cc;let co:fD p=(oG (p.rw true)).length+(oG (p.rw false)).length:=by rw[ZP,ZP];rfl
  show(_,uC.of (W _ _ O.q.hp),_,CC (j:=0) rfl,_,.inl (_,uC.of (W _ _ bh),rfl),_,uC.of (W _ _ O.q.hp),_,CC (j:=1) rfl,_,.inl (_,uC.of (W _ _ bg),rfl),?_);let cp:room p=us.length+ch.length:=by unfold room;omega
  by_cases c:fD p < room p
  .rw[iA c] at q;rw[gA ⋯];let bj:=O.same W;show(pl,a1,ae,mk,a5,p,none,ms,rfl,bj,W _ _ bu,br,bv,bx,ak,al,bw,λbe d4=>bY O.tw O.q.ln.1 O.q.ln.2 c be,λZ a0 J i ca out t e cg a6 a2 af av a7 ba ag ο=>?_);let(aw,cq,cr,aj,cu):=a6.facts O.tw;let cd:Z b4>(.lst (bs.map V.int)):=af.kw _ _ (W _ _ bz) bt;let bn:Z h>(.tup (k.map kV)):=af.kw _ _ (W _ _ hh) (by rw[O.q.lv.zero hh λο a4=>nomatch a4];decide);let b7:Ap J:=(a6.hd λj q e=>by
    let(_,_,_,rfl)||(_,d8,aq,_,_,_,ci,_,_,rfl):=a6
    .cases e
    .cases e;let h||(h,_):=iO O.tw ci
     .show h
     .cases h).nodup_iff.mpr bi
   show(_,.inl (uC.of cd),λD ab F a3 U ac=>?_);let(ah,a9):=jD (o:=.lst (bs.map V.int)) ab;let b2:=a2.new (k:=3) (us:=bs.map V.int) ab;let c5:Mv [1,2] a0 (lab a0 D 3) Z (upd Z D (.lst (bs.map V.int))):=Mv.new ab;let c2:lab a0 D 3 D=3:=NH;let bp:=ah _ _ bn;let ce:=ah _ _ av;let cn:=ah _ _ a7;let d5:lab a0 D 3 e=5:=by rw[qH (mE a7 ab)];show ag
   generalize upd Z D _=G61 at *;generalize lab a0 D 3=L61 at *;let ay:F∉dG J:=λz9=>by let(us,h):=b2.hdl z9;rw[a3] at h;cases h
   let(ai,aa):=jD (o:=.lst [V.ref h]) a3;let cb:=b2.new (k:=4) (us:=[V.ref h]) a3;let c7:Mv [1,2] L61 (lab L61 F 4) G61 (upd G61 F (.lst [V.ref h])):=Mv.new a3;let c3:lab L61 F 4 F=4:=NH;let c4:lab L61 F 4 D=3:=by rw[qH (mE a9 a3)];show c2
   let b5:=ai _ _ a9;let bb:=ai _ _ bp;generalize upd G61 F _=G62 at *;generalize lab L61 F 4=L62 at *;let(a8,bc):=jD (o:=.lst [V.ref D,V.ref F,V.non]) ac;let ad:=cb.new (k:=2) (us:=[V.ref D,V.ref F,V.non]) ac;let c8:Mv [1,2] L62 (lab L62 U 2) G62 (upd G62 U (.lst [V.ref D,V.ref F,V.non])):=Mv.new ac;let b1:∀{c us k},G62 c>(.lst us)->L62 c=k->lab L62 U 2 c=k:=λbm bq=>by rw[qH (mE bm ac)];show bq
   let bl:RF (upd G62 U (.lst [V.ref D,V.ref F,V.non])) (lab L62 U 2) (.ref U) (some (bs,[k],U,D,F)) none:=(rfl,bc,a8 _ _ b5,([V.ref h],a8 _ _ aa,.cons (h,rfl,a8 _ _ bb) .nil),NH,b1 b5 c4,b1 aa c3)
   let cf:=a8 _ _ (ai _ _ ce);generalize upd G62 U _=G63 at *;generalize lab L62 U 2=L63 at *;let(b6,am,d3,_):=ad.q.hf;let cy:=(aA.mp aw).1;let b3:=ad.q.frame (j:=i) am bl;let b0:Mv [1,2] a0 L63 Z (upd G63 a1 (.lst (b6.set i (.ref U)))):=((c5.trans c7).trans c8).trans (Mv.set am (by rw[ad.q.l1.2.1];simp));let d2:=a2.q.ln;let bf:J.tf.set i none=J.tf:=by
    obtain⟨c9,az⟩:∃o,J.tf[i]?>o:=⟨_,cA ⋯⟩
    cases c9 with
    |some b=>show absurd az (aj b)
    |none=>show fJ az
   rw[bf] at b3;show(_,uC.of ad.q.hp,_,CC (j:=0) rfl,t,rfl,_,VC.of cf,.int i,CC (j:=0) rfl,a1,rfl,b6,(i:Int),rfl,am,i,HF ⋯,?_);let z7:=b0.zv a2.q.lv (by simp);show q _ L63 J i ca out t e cg (bs,[k],U,D,F) a6 ⟨b3.twins λap aq ax=>?_,a2.tw.fill aj⟩ ?_ rfl rfl ((Mv.of (S:=[1,2]) W).trans (af.trans b0)) (z7.tup av) (z7.lst a7 ag (by decide) (by decide)).1 (ba.zv z7 (by decide)) (z7.lst a7 ag (by decide) (by decide)).2
   .change pE (J.fr.set i _) ap=pE J.fr ap;unfold pE;rw[oA,gA (λe=>aj aq (by rw[e];show a2.tw.back ap aq ax))]
   .unfold Ap;change (iE (J.fr.set i (some (_,_,U,D,F))++J.sr)).Nodup;rw[eF];show ((qI (r:=(_,_,U,D,F)) aw).append_right _).nodup_iff.mpr ?_;let bd:dG J=iE J.fr++iE J.sr:=eF;let ar:(dG J).Nodup:=b7;rw[bd] at ay ar;show JA.mpr ⟨ay,ar⟩
  .rw[gA c] at q;let c0:=PX (rows:=p.fr);let c1:=PX (rows:=p.sr);have:fD p=VE p.fr+VE p.sr:=rfl;have:room p=p.fr.length+p.sr.length:=rfl;rw[iA ⋯];show q b9 W
def twO (out:Option (Nat×Sh)) (j:Nat):Option Nat:=if out.map (·.1)>j then none else some j
theorem BY {D F:!(Option Sh)} {i j:Nat} {c q:Sh} (O:D[i]?>none) (J:F[j]?>(some c)) (e:q.hd=c.hd):(iE (D.set i (some q)++F.set j none)).Perm (iE (D++F)):=by
 rw[eF,eF];show ((qI (r:=q) O).append_right _).trans (List.Perm.trans ?_ ((WJ J).append_left _).symm);rw[e];show ZA.symm
theorem vI.apB {p Z:St} {ms:!Bool} {i j:Nat} {ab:!Int} {out:Option (Nat×Sh)} {c J:Sh} (h:vI p (some j) ms Z i ab out) (a1:Tw p) (V:Ap p) (W:p.sr[j]?>(some c)) (e:J.hd=c.hd):Ap (wD Z i j J out):=by
 let(a2,a3,_):=rL (s1:=Z) (i:=i) (j:=j) (c:=J) (out:=out);let(U,_):=h.facts a1;unfold Ap;rw[a2,a3];let a5:=h;let(a6,rfl,_,rfl)||(a6,q,D,a,ad,a9,aa,a7,rfl,rfl):=h
 .rw[gA (λF=>by cases F)];show (BY U W e).nodup_iff.mpr V
 .let(a4,a0,_):=sI (s:={p with h:=(i+1) % p.fr.length}) (i:=i) (j:=D) (r:={q with sh:=a});by_cases O:D=j
  .subst O;rw[iA (show Option.map (λx:Nat×Sh=>x.1) (some (D,q))>D from rfl),a0,eF];rw[a4] at U ⊢;let ac:(iE (p.sr.set D (some {q with sh:=a}))).Perm (q.hd::iE (p.sr.set D none)):=by
    have:=qI (r:={q with sh:=a}) (rows:=p.sr.set D none) (j:=D) (yA a7);rw[AB] at this;show this
   show (((qI (r:=J) U).append ac).trans ?_).nodup_iff.mpr V;rw[eF];show List.Perm.trans ?_ ((WJ a9).append (WJ W)).symm;rw[e];show (List.Perm.cons _ ZA).trans ((List.Perm.swap _ _ _).trans (List.Perm.cons _ ZA.symm))
  .rw[gA (show ¬Option.map (λx:Nat×Sh=>x.1) (some (D,q))>j from λF=>O (bA F))];let a8:p.sr[D]?>none:=by
    let h||(h,_):=iO a1 aa
    .show h
    .show absurd (bA h).symm O
   show (BY U (c:=c) (by rw[a0,oA,gA O];show W) e).nodup_iff.mpr ?_;show (a5.hd λj q F=>by cases F;show a8).nodup_iff.mpr V
theorem EO {a0:Hp} {j q D F J:Addr} {r r' u e R s:HO} (a4:j≠q) (a5:j≠D) (a6:j≠F) (a7:j≠J) (a1:q≠D) (a2:q≠F) (a3:q≠J):upd (upd (upd (upd (upd (upd a0 j r) q u) D e) F R) J s) j r'=upd (upd (upd (upd (upd a0 j r') D e) F R) J s) q u:=by
 funext c;by_cases O:c=j
 .rw[O,HC,sC a4,sC a7,sC a6,sC a5,HC]
 .rw[sC O];by_cases U:c=q
  .rw[U,HC,sC a3,sC a2,sC a1,HC]
  .rw[sC (a:=q) U];by_cases V:c=J
   .rw[V,HC,HC]
   .rw[sC V,sC V];by_cases W:c=F
    .rw[W,HC,HC]
    .rw[sC W,sC W];by_cases Z:c=D
     .rw[Z,HC,HC]
     .rw[sC Z,sC Z,sC U,sC O,sC O]
def FO (H:Hp) (L:Lb) (pl fl sl:Addr) (p:St):Prop:=Lq H L pl fl sl p.h p.fr p.sr p.tf p.ts (pE p.fr)
def TL (G1:Hp) (fl:Addr) (us:!V) (i:Nat) (r:!V) (a7:Addr) (G:Hp):Prop:=G1 a7=none/\G=upd (upd G1 a7 (.lst r)) fl (.lst (us.set i (.ref a7)))
structure N6 (p:St) (j:Nat) (ms:!Bool) (L:Lb) (H:Hp) (pl fl sl:Addr) (t:Addr) (La:Lb) (p1:St) (i:Nat) (ps:!Int) (out:Option (Nat×Sh)) (e:Addr) (v3:V) (G:Hp):Prop where
 ff:vI p (some j) ms p1 i ps out
 lp:Lp G La pl fl sl p1
 mv:Mv [1,2] L La H G
 ht:G t>(.tup [.int (i:Int),.ref e,v3])
 he:G e>(.lst (ps.map V.int))
 ho:jF G La v3 out
 le:La e=5
 sk:Sk p H G
def sp_lbk:Sp:=λvs H Q ο=>∃(pl fl sl m:Addr) (L:Lb) (p:St) (j:Nat) (ms:!Bool) (w:Sh),vs=[.ref pl,.int (j:Int),.ref m]/\Lp H L pl fl sl p/\Ap p/\p.sr[j]?>(some w)/\H m>(.lst (ms.map V.bl))/\L m∉[1,2]/\ms.length=p.fr.length/\p.h < p.fr.length/\p.fr.length<=64/\p.sr.length<=64/\(∀r,some r∈p.fr->LH r.ks/\r.ks≠[])/\
 ∀H' L' p1 i ps out t e v3 a7,vI p (some j) ms p1 i ps out->FO H' L' pl fl sl (wD p1 i j {w with sh:=a7} out)->Ap (wD p1 i j {w with sh:=a7} out)->Mv [1,2] L L' H H'->H' t>(.tup [.int (i:Int),.ref e,v3])->H' e>(.lst (ps.map V.int))->jF H' L' v3 out->L' e=5->Q (.ref t) H'
theorem GO (T:LD K mg A):oE P w K mg base "_law_back" 4 ["_law_plain","_law_slot","_law_marks"] [] sp_lbk:=by
 show T.Ft.have rS (λvs H Q E ad=>?_) ?_
 .let(pl,U,a3,m,ay,p,j,ms,w,rfl,_):=ad;rfl
 .intro f ez ev f9 s H vs Q E e6 ad;let(pl,U,a3,m,ay,p,j,ms,w,rfl,af,du,b5,e2,e1,e3,e5,dr,dt,e4,q):=ad;show(_,(OC (mD (i:=3) rS.nd rfl (Or.inl rfl) (BC LC (BC LC (lC 0) yC (λο ο=>rfl)) (lC 1) (λο ο=>rfl)))
   (AD (mD (i:=4) rS.nd rfl (Or.inl rfl) (XD (wY T) (-e6) WC (nC (lC 0) (nC (lC 2) (nC (lC 1) wC)))))
   (AD (mF (cF (nC (BC LC (lC 3) yC (λο ο=>rfl)) (nC (BC LC (lC 3) yC (λο ο=>rfl)) (nC BD wC)))) (lF (BC LC (lC 0) yC (λο ο=>rfl)) (BC ND (lC 4) yC (λο ο=>rfl)) oF))
   (AD (JD (PW.pt (SM (CD yG (BC ND (lC 4) yC (λο ο=>rfl)) BD (rC _)) (RM (CD iP (BC ND (BC ND (lC 4) yC (λο ο=>rfl)) yC (λο ο=>rfl)) (lC 1) (rC _))))) (OC (mF (cF (nC (BC LC (lC 3) yC (λο ο=>rfl)) (nC (cF wC) (nC (BC ND (lC 4) yC (λο ο=>rfl)) wC)))) (lF (BC LC (lC 0) yC (λο ο=>rfl)) (lC 1) oF))
   (FC (mF (lC 1) (lF (BC LC (BC LC (lC 0) yC (λο ο=>rfl)) (BC ND (lC 4) yC (λο ο=>rfl)) (λο ο=>rfl)) yC oF)))) KD)
   (FC (sD (lC 4))))))),?_)
  rfl';let(fb,e9,f5,ea,dw):=af.slot b5;let(_,cv,em,en,eo,eq,er):=id dw;let cb:=(aA.mp b5).1;show(_,uC.of af.q.hp,_,CC (j:=1) rfl,a3,rfl,_,uC.of e9,_,CC ea,?_);show(λax G=>∃t,ax=[↑pl,some (.int (j:Int)),↑m,↑w.sh,↑t]/\∃a6 O i aw out e ai,N6 p j ms ay H pl U a3 t a6 O i aw out e ai G,?_,λfc W=>?_)
  .rfl';show(pl,U,a3,m,ay,p,some j,ms,rfl,af,e2,e1,e3,e5,dr,dt,e4,λau i=>OS af.tw af.q.ln.2 λο ο=>(j,rfl,cb),λey cz O i aw out t e ai d1 d2 d3 d4 d5 d7 D d8=>(t,rfl,cz,O,i,aw,out,e,ai,d1,d2,d3,d4,d5,d7,D,d8))
  rintro⟨t,rfl,a6,O,i,aw,out,e,ai,a1⟩;let bq:=a1.mv;let z2:Zv [1,2] ay a6 H W:=bq.zv af.q.lv (by simp);let(dn,f0,dp,c8,f1):=a1.ff.facts af.tw;let b6:=a1.lp.q.lv;let a5:=a1.lp.q;let b4:=a1.ht;let bn:W w.sh>(.lst [.ref w.bx,.ref w.hd,oV none]):=(a1.sk j w b5).trans cv;let cf:a6 w.sh=2:=by rw[bq.lx.at cv];show eo
  let bc:=z2.lst em eq (by decide) (by decide);let et:vF W w.hd w.ks/\a6 w.hd=4:=by
   let(bp,bz,c0):=en;let(c1,c2):=z2.lst bz er (by decide) (by decide);show⟨(bp,c1,Paired.mapP c0 λ_ _ ⟨a,e,q⟩=>(a,e,z2.tup q)),c2⟩
  let e0:=(aA.mp dn).1;let f2:j < O.sr.length:=by rw[dp];show cb
  let(ba,av,f4,_):=a5.hf;let(aq,bl,f6,_):=a5.hs;let(f7,ao,l3):=a5.l1;let f3:=a5.ln;let eg:w.sh≠U:=λe=>by rw[e,ao] at cf;cases cf
  show(λax G=>ax=[↑pl,some (.int (j:Int)),↑m,↑w.sh,↑t]/\∃D,TL W U ba i [.ref w.bx,.ref w.hd,.non] D G,?_,λff a0=>?_)
  .rfl';show(_,uC.of bn,_,CC (j:=0) rfl,_,uC.of bn,_,CC (j:=1) rfl,λD a7=>?_);let(ap,be):=jD (o:=.lst [V.ref w.bx,V.ref w.hd,V.non]) a7;show(_,uC.of (ap _ _ a5.hp),_,CC (j:=0) rfl,_,VC.of (ap _ _ b4),.int i,CC (j:=0) rfl,U,rfl,ba,(i:Int),rfl,ap _ _ av,i,HF ⋯,D,a7,rfl)
  rintro⟨rfl,D,a7,al⟩;let(ap,be):=jD (o:=.lst [V.ref w.bx,V.ref w.hd,V.non]) a7;let ck:D≠U:=λe=>by rw[e,av] at a7;cases a7
  let b8:D≠a3:=λe=>by rw[e,bl] at a7;cases a7
  let dv:Ap (wD O i j {w with sh:=D} out):=a1.ff.apB af.tw du b5 rfl;let el:∀j',O.ts[j']?≠some (some i):=λj' h=>c8 j' (a1.lp.tw.back i j' h);let k2:∀{c o},W c>o->c≠U->a0 c>o:=λag bj=>by rw[al,sC bj];show ap _ _ ag
  let bv:∀{c us},W c>(.tup us)->c≠U:=λag e=>by rw[e,av] at ag;cases ag
  show(λax G=>ax=[↑pl,some (.int (j:Int)),↑m,↑w.sh,↑t]/\∃aj,FO G aj pl U a3 (wD O i j {w with sh:=D} out)/\Mv [1,2] a6 aj W G,?_,λfg ew=>?_)
  .rfl';let ce:=k2 bn eg;let ac:=k2 b4 (bv b4);let b0:a0 D>(.lst [.ref w.bx,.ref w.hd,.non]):=by rw[al,sC ck];show be
   let b1:a0 U>(.lst (ba.set i (.ref D))):=by rw[al,HC]
   let b2:=k2 a5.hp a5.ne.1;let bm:=k2 bl (Ne.symm a5.ne.2.2);let co:=a5.twins (B':=λx=>if x=i then w.b else pE O.fr x) λam a4 a9=>by
    change (if am=i then w.b else pE O.fr am)=_;rw[gA (λe=>el a4 (by rw[<-e];show a9))]
   let fin:∀{ae:Hp} {ak:Lb} {bb:!V} {bu:!(Option Sh)} {bw:!(Option Nat)} {o:Option Nat},Lq ae ak pl U a3 O.h O.fr bu O.tf bw (λx=>if x=i then w.b else pE O.fr x)->ae U>(.lst bb)->Mv [1,2] a6 ak W ae->ae D>(.lst [.ref w.bx,.ref w.hd,oV o])->ak D=2->o=twO out j->bu=(if out.map (·.1)>j then O.sr else O.sr.set j none)->bw=(if out.map (·.1)>j then O.ts else O.ts.set j (some i))->FO (upd ae U (.lst (bb.set i (.ref D)))) ak pl U a3 (wD O i j {w with sh:=D} out)/\Mv [1,2] a6 ak W (upd ae U (.lst (bb.set i (.ref D)))):=λ{ae ak bb bu bw o} cq c9 cj dq ec dj es dk=>by
    let z8:=cj.zv b6 (by simp);let cw:=z8.lst bc.1 bc.2 (by decide) (by decide);let cx:vF ae w.hd w.ks/\ak w.hd=4:=by
     let((bp,bz,c0),eu):=et;let(c1,c2):=z8.lst bz eu (by decide) (by decide);show⟨(bp,c1,Paired.mapP c0 λ_ _ ⟨a,e,q⟩=>(a,e,z8.tup q)),c2⟩
    let cp:=cq.frame (j:=i) c9 (v:=.ref D) (r:=some {w with sh:=D}) (o:=o) (rfl,dq,cw.1,cx.1,ec,cw.2,cx.2);show⟨?_,cj.trans (Mv.set c9 (by rw[cq.l1.2.1];simp))⟩;unfold FO;let(aa,bf,bg,de,df,_):=rL (s1:=O) (i:=i) (j:=j) (c:={w with sh:=D}) (out:=out);rw[aa,bf,bg,de,df];let dl:O.tf.set i (twO out j)=if out.map (·.1)>j then O.tf else O.tf.set i (some j):=by
     unfold twO
     split
     .obtain⟨ei,cd⟩:∃o,O.tf[i]?>o:=⟨_,cA ⋯⟩
      cases ei with
      |some b=>show absurd cd (c8 b)
      |none=>show fJ cd
     .rfl
    rw[dj,dl,es,dk] at cp;show cp.twins λam a4 a9=>?_;change pE (O.fr.set i (some {w with sh:=D})) am=if am=i then w.b else pE O.fr am
    unfold pE;rw[oA];by_cases au:am=i
    .rw[iA au,iA au.symm,iA e0]
    .rw[gA au,gA (λe=>au e.symm)]
   let cu:out.map (·.1)≠some j->∀F J,a0 F=none->upd a0 F (.lst []) J=none->∃aj,FO (upd (upd (upd (upd a0 F (.lst [])) J (.lst [.ref w.bx,.ref F,.int (i:Int)])) a3 (.lst (aq.set j (.ref J)))) D (.lst [.ref w.bx,.ref w.hd,.int (j:Int)])) aj pl U a3 (wD O i j {w with sh:=D} out)/\Mv [1,2] a6 aj W (upd (upd (upd (upd a0 F (.lst [])) J (.lst [.ref w.bx,.ref F,.int (i:Int)])) a3 (.lst (aq.set j (.ref J)))) D (.lst [.ref w.bx,.ref w.hd,.int (j:Int)])):=λa8 F J a2 Z=>by
    let az:F≠D:=λe=>by rw[e,b0] at a2;cases a2
    let c5:F≠U:=λe=>by rw[e,b1] at a2;cases a2
    let bh:J≠F:=λe=>by rw[e,HC] at Z;cases Z
    rw[sC bh] at Z;let b9:J≠D:=λe=>by rw[e,b0] at Z;cases Z
    let cr:J≠U:=λe=>by rw[e,b1] at Z;cases Z
    let dz:W F=none:=by rw[al,sC c5,sC az] at a2;show a2
    let e7:W J=none:=by rw[al,sC cr,sC b9] at Z;show Z
    rw[al,EO ck (Ne.symm az) (Ne.symm b9) b8 (Ne.symm c5) (Ne.symm cr) a5.ne.2.2];let(c4,d9):=jD (o:=.lst [V.ref w.bx,V.ref w.hd,V.int (j:Int)]) a7;let br:=co.new (k:=2) (us:=[V.ref w.bx,V.ref w.hd,V.int (j:Int)]) a7;let ed:Mv [1,2] a6 (lab a6 D 2) W (upd W D (.lst [V.ref w.bx,V.ref w.hd,V.int (j:Int)])):=Mv.new a7;let l3:lab a6 D 2 D=2:=NH;let bi:upd W D (.lst [V.ref w.bx,V.ref w.hd,V.int (j:Int)]) F=none:=by rw[sC az];show dz
    let e8:upd W D (.lst [V.ref w.bx,V.ref w.hd,V.int (j:Int)]) J=none:=by rw[sC b9];show e7
    generalize upd W D (.lst [V.ref w.bx,V.ref w.hd,V.int (j:Int)])=V3 at *;generalize lab a6 D 2=L3 at *;let(bd,dc):=jD (o:=.lst []) bi;let ek:=br.new (k:=4) (us:=[]) bi;let ee:Mv [1,2] L3 (lab L3 F 4) V3 (upd V3 F (.lst [])):=Mv.new bi;let cg:lab L3 F 4 D=2/\lab L3 F 4 F=4:=⟨by rw[qH (Ne.symm az)];show l3,NH⟩
    let b3:upd V3 F (.lst []) J=none:=by rw[sC bh];show e8
    let da:=bd _ _ d9;generalize upd V3 F (.lst [])=V4 at *;generalize lab L3 F 4=L4 at *;let ch:=ed.trans ee;let bx:=(ch.zv b6 (by simp)).lst bc.1 bc.2 (by decide) (by decide);let(ar,dd):=jD (o:=.lst [V.ref w.bx,V.ref F,V.int (i:Int)]) b3;let cn:=ek.new (k:=2) (us:=[V.ref w.bx,V.ref F,V.int (i:Int)]) b3;let ef:Mv [1,2] L4 (lab L4 J 2) V4 (upd V4 J (.lst [V.ref w.bx,V.ref F,V.int (i:Int)])):=Mv.new b3;let dy:RS (upd V4 J (.lst [V.ref w.bx,V.ref F,V.int (i:Int)])) (lab L4 J 2) (λx=>if x=i then w.b else pE O.fr x) (.ref J) none (some i):=(J,w.bx,F,rfl,dd,by change _>(HO.lst ((if i=i then w.b else pE O.fr i).map V.int));rw[iA rfl];show ar _ _ bx.1,ar _ _ dc,NH,by rw[qH (mE bx.1 b3)];show bx.2,by rw[qH (Ne.symm bh)];show cg.2)
    let eb:lab L4 J 2 D=2:=by rw[qH (Ne.symm b9)];show cg.1
    let db:=ar _ _ da;generalize upd V4 J (.lst [V.ref w.bx,V.ref F,V.int (i:Int)])=V5 at *;generalize lab L4 J 2=L5 at *;let ci:=ch.trans ef;let z15:=ci.zv b6 (by simp);let c7:=ar _ _ (bd _ _ (c4 _ _ bl));let dh:=ar _ _ (bd _ _ (c4 _ _ av));let bt:=cn.slot c7 (j:=j) dy;let b7:=ci.trans (Mv.set (us':=aq.set j (.ref J)) c7 (by rw[cn.l1.2.2];simp));show⟨_,fin bt (by rw[sC a5.ne.2.2];show dh) b7 (o:=some j) (by rw[sC b8];show db) eb (by unfold twO;rw[gA a8]) (by rw[gA a8]) (by rw[gA a8])⟩
   show(_,VC.of ac,ai,CC (j:=2) rfl,?_);let fa:out.map (·.1)≠some j->∀F,a0 F=none->True:=λο ο ο=>trivial;by_cases a8:out.map (·.1)>j
   .cases out with
    |none=>cases a8
    |some x=>
     let(a4,ej):=x;let(ah,ao,rfl,aa,bf,bg):=id a1.ho;let di:a4=j:=bA a8;rw[gA (λad=>nomatch ad)];show(_,VC.of ac,_,CC (j:=2) rfl,ah,rfl,_,VC.of (k2 aa (bv aa)),.int a4,CC (j:=0) rfl,rfl,?_);show aJ (by rw[BA (by rw[di])];rfl) ?_;let br:=co.new (k:=2) (us:=[V.ref w.bx,V.ref w.hd,V.non]) a7;rw[al];show⟨_,fin br (ap _ _ av) (Mv.new a7) (o:=none) be NH (by unfold twO;rw[iA a8]) (by rw[iA a8]) (by rw[iA a8])⟩
   .let c3:∀{F J:Addr} {R:HO},a0 F=none->upd a0 F (.lst []) J=none->(∀{c o},a0 c>o->upd (upd a0 F (.lst [])) J R c>o)/\∀{c o},a0 c>o->c≠a3->upd (upd (upd a0 F (.lst [])) J R) a3 (.lst (aq.set j (.ref J))) c>o:=λ{F J R} a2 Z=>by
     let a9:∀{c o},a0 c>o->upd (upd a0 F (.lst [])) J R c>o:=λag=>(jD Z).1 _ _ ((jD a2).1 _ _ ag);show⟨a9,λag bj=>by rw[sC bj];show a9 ag⟩
    let cm:t≠a3:=λe=>by rw[e,bm] at ac;cases ac
    let ca:(ba.set i (V.ref D))[i]?>(V.ref D):=yA ⋯;rcases (show ai=.non\/∃(ah ao:Addr) (a4:Nat),ai=.ref ah/\W ah>(.tup [.int (a4:Int),.ref ao])/\¬(V.int (a4:Int)=V.int (j:Int)) by
     let cc:=a1.ho;cases out with
     |none=>show .inl cc
     |some x=>
      let(a4,ej):=x;let(ah,ao,dg,aa,bf,bg):=id cc;show .inr (ah,ao,a4,dg,aa,λad=>a8 ?_);have:(a4:Int)=j:=V.int.inj ad;change some a4>j;rw[show a4=j by omega]) with rfl|⟨ah,ao,a4,rfl,aa,eh⟩
    .rw[iA rfl];show(_,uC.of ce,_,CC (j:=0) rfl,λF a2=>(_,VC.of ((jD a2).1 _ _ ac),.int i,CC (j:=0) rfl,λJ Z=>?_));let(a9,ab):=c3 (R:=.lst [.ref w.bx,.ref F,.int (i:Int)]) a2 Z;show(_,uC.of (a9 b2),_,CC (j:=1) rfl,a3,rfl,aq,a9 bm,j,HF ⋯,_,uC.of (ab b2 a5.ne.2.1),_,CC (j:=0) rfl,_,VC.of (ab ac cm),.int i,CC (j:=0) rfl,U,rfl,_,(i:Int),rfl,uC.of (ab b1 a5.ne.2.2),_,CC ca,D,rfl,_,ab b0 b8,2,rfl,cu a8 F J a2 Z)
    .rw[gA (λad=>nomatch ad)];show(_,VC.of ac,_,CC (j:=2) rfl,ah,rfl,_,VC.of (k2 aa (bv aa)),.int a4,CC (j:=0) rfl,rfl,pI (by rw[zA eh];rfl) ?_);show(_,uC.of ce,_,CC (j:=0) rfl,λF a2=>(_,VC.of ((jD a2).1 _ _ ac),.int i,CC (j:=0) rfl,λJ Z=>?_));let(a9,ab):=c3 (R:=.lst [.ref w.bx,.ref F,.int (i:Int)]) a2 Z;show(_,uC.of (a9 b2),_,CC (j:=1) rfl,a3,rfl,aq,a9 bm,j,HF ⋯,_,uC.of (ab b2 a5.ne.2.1),_,CC (j:=0) rfl,_,VC.of (ab ac cm),.int i,CC (j:=0) rfl,U,rfl,_,(i:Int),rfl,uC.of (ab b1 a5.ne.2.2),_,CC ca,D,rfl,_,ab b0 b8,2,rfl,cu a8 F J a2 Z)
  rintro⟨rfl,aj,bt,b7⟩;let z6:=b7.zv b6 (by simp);rfl';show q _ aj O i aw out t e ai D a1.ff bt dv (bq.trans b7) (z6.tup b4) (z6.lst a1.he a1.le (by decide) (by decide)).1 (a1.ho.zv z6 (by decide)) (z6.lst a1.he a1.le (by decide) (by decide)).2
theorem Lq.cell {H:Hp} {F:Lb} {pl W a1:Addr} {h:Nat} {a2 a5:!(Option Sh)} {tf ts:!(Option Nat)} {B:Nat->!Int} (q:Lq H F pl W a1 h a2 a5 tf ts B) {a:Addr} {ag x:!V} (aa:H a>(.lst ag)) (la:F a=2) (ae:∀us,H W>(.lst us)->V.ref a∉us) (af:∀D,H a1>(.lst D)->V.ref a∉D):Lq (upd H a (.lst x)) F pl W a1 h a2 a5 tf ts B:=by
 let(us,a4,a8,a9):=q.hf;let(D,a3,a6,a7):=q.hs;let(ac,ad,l3):=q.l1;let kr:Kr F F H (upd H a (.lst x)):=(λc D j=>by rw[sC (HD j aa (λah=>nomatch ah))];show j,λc D j ab=>by rw[sC (λe=>by rw[e,la] at ab;omega)];show j,λο ο=>rfl)
 let a0:∀{c o},F c=1->H c>o->upd H a (.lst x) c>o:=λj J=>by rw[sC (λe=>by rw[e,la] at j;cases j)];show J
 show(a0 ac q.hp,(us,a0 ad a4,a8,λi r o Z J=>?_),(D,a0 l3 a3,a6,λi r o Z J=>?_),q.l1,q.ne,q.ln,q.lv.set)
 .let(v,e,f):=a9 i r o Z J;show(v,e,f.kr kr λy U=>sC λO=>?_);subst U;show ae us a4 (by rw[<-O,<-f.1];show dA e)
 .let(v,e,f):=a7 i r o Z J;show(v,e,f.kr kr λy U=>sC λO=>af D a3 (by rw[<-O,<-U];show dA e))
theorem CY {H:Hp} {a b:Addr} {x y:HO} (n:a≠b):upd (upd H a x) b y=upd (upd H b y) a x:=by
 funext c;by_cases j:c=a
 .rw[j,HC,sC n,HC]
 .by_cases q:c=b
  .rw[q,HC,sC (Ne.symm n),HC]
  .rw[sC q,sC j,sC j,sC q]
theorem tT {q:!(Option Sh)} {i j:Nat} {r:Option Sh} (h:i≠j):pE (q.set j r) i=pE q i:=by unfold pE;rw[oA,gA (Ne.symm h)]
theorem Lp.alone {H:Hp} {a8:Lb} {pl a3 a5:Addr} {p:St} {j:Nat} {w:Sh} (a2:Lp H a8 pl a3 a5 p) (a1:Ap p) (U:p.fr[j]?>(some w)) (af:w.ks≠[]):(∀us,H a3>(.lst us)->∀i,i≠j->us[i]?≠↑w.sh)/\∀Z,H a5>(.lst Z)->V.ref w.sh∉Z:=by
 let(us,ad,ap,a4):=a2.q.hf;let(Z,ab,ao,ac):=a2.q.hs;let(aw,ax):=a2.q.ln;let ar:=(aA.mp U).1;let(v,au,(_,a0,_,aa,_)):=a4 j _ _ U (cA ⋯);unfold Ap at a1;rw[eF] at a1;let(ah,av,ai):=KA.mp a1;show⟨λus' e i O W=>?_,λak e W=>?_⟩
 .rw[ad] at e;obtain rfl:us=us':=HO.lst.inj (bA e);let ae:=(aA.mp W).1;obtain⟨r,F⟩:∃r,p.fr[i]?>r:=⟨_,cA ⋯⟩
  let(aj,J,f'):=a4 i _ _ F (cA ⋯);rw[W] at J;obtain rfl:=bA J;cases r with
  |none=>cases f'
  |some r=>
   let(D,q,_):=f';rw[<-V.ref.inj D,a0] at q;simp only[vB,HO.lst.injEq,lB,and_true,V.ref.injEq] at q;show AM ah U F O q.2.1.symm
 .rw[ab] at e;obtain rfl:Z=ak:=HO.lst.inj (bA e);let(i,O):=IA.mp W;let ae:=(aA.mp O).1;obtain⟨r,F⟩:∃r,p.sr[i]?>r:=⟨_,cA ⋯⟩
  obtain⟨o,ag⟩:∃o,p.ts[i]?>o:=⟨_,cA ⋯⟩
  let(aj,J,f'):=ac i _ _ F ag;rw[O] at J;obtain rfl:=bA J;cases r with
  |some r=>
   let(D,q,_):=f';rw[<-V.ref.inj D,a0] at q;simp only[vB,HO.lst.injEq,lB,and_true,V.ref.injEq] at q;show ai w.hd (vG.mpr (w,dA U,rfl)) r.hd (vG.mpr (r,dA F,rfl)) q.2.1
  |none=>
   cases o with
   |none=>cases f'
   |some x=>
    let(a,am,aq,D,q,_,al,_):=f';rw[<-V.ref.inj D,a0] at q;simp only[vB,HO.lst.injEq,lB,and_true,V.ref.injEq] at q;let(vs,a6,a7):=aa;rw[q.2.1,al] at a6;let a9:vs=[]:=(HO.lst.inj (bA a6)).symm;rw[a9] at a7;generalize w.ks=ks at *;cases a7;show af rfl
theorem Lp.go {G:Hp} {W:Lb} {pl q D:Addr} {p:St} {j:Nat} {w:Sh} {o:Option Nat} {us O:!V} (F:Lp G W pl q D p) (ai:p.fr[j]?>(some w)) (Z:p.tf[j]?>o) (a4:G q>(.lst us)) (ag:G D>(.lst O)) (af:G w.sh>(.lst [.ref w.bx,.ref w.hd,oV o])) (a0:W w.sh=2) (am:∀i,i≠j->us[i]?≠↑w.sh) (ao:V.ref w.sh∉O):Lp (upd (AE G D w O o) q (.lst (us.set j .non))) W pl q D (UC p true j)/\Mv [1,2] W W G (upd (AE G D w O o) q (.lst (us.set j .non))):=by
 let(ar,a6,l3):=F.q.l1;let ab:=F.tw.empt (f:=true) ai;let a7:=F.q.frame a4 (j:=j) (v:=.non) (r:=none) (o:=none) rfl;cases o with
 |none=>
  show⟨⟨?_,ab⟩,Mv.set a4 (by rw[a6];simp)⟩;let e:UC p true j=p.put true j none:=ZJ (λk a3=>by let a3:p.tf[j]?>(some k):=a3;rw[Z] at a3;cases a3);rw[e];rw[fJ Z] at a7;show Lq.twins a7 λa2 a5 U=>?_;let U:=F.tw.back a2 a5 U;let J:a2≠j:=λe=>by rw[e,Z] at U;cases U
  show tT J
 |some k=>
  let ac:w.sh≠q:=λe=>by rw[e,a6] at a0;cases a0
  let ap:w.sh≠D:=λe=>by rw[e,l3] at a0;cases a0
  let aj:=F.tw.there j k Z;let ah:=F.tw.bare j k aj;let a9:upd G q (.lst (us.set j .non)) D>(.lst O):=by rw[sC (Ne.symm F.q.ne.2.2)];show ag
  let aq:=a7.slot a9 (j:=k) (v:=.non) (r:=none) (o:=none) rfl;let ae:upd (AE G D w O (some k)) q (.lst (us.set j .non))=upd (upd (upd G q (.lst (us.set j .non))) D (.lst (O.set k .non))) w.sh (.lst [.ref w.bx,.ref w.hd,.non]):=by
   change upd (upd (upd G D _) w.sh _) q _=_;rw[CY ac,CY (Ne.symm F.q.ne.2.2)]
  let al:Mv [1,2] W W G (upd (upd G q (.lst (us.set j .non))) D (.lst (O.set k .non))):=(Mv.set a4 (by rw[a6];simp)).trans (Mv.set a9 (by rw[l3];simp));let a8:upd (upd G q (.lst (us.set j .non))) D (.lst (O.set k .non)) w.sh>(.lst [.ref w.bx,.ref w.hd,oV (some k)]):=by rw[sC ap,sC ac];show af
  let ad:=aq.cell (x:=[.ref w.bx,.ref w.hd,.non]) a8 a0 (λus' e a1=>by
   rw[sC F.q.ne.2.2,HC] at e;rw[<-HO.lst.inj (bA e)] at a1;let(i,J):=IA.mp a1;rw[oA] at J;by_cases c:j=i
   .subst c;rw[iA rfl] at J
    split at J<;>cases J
   .rw[gA c] at J;show am i (Ne.symm c) J) (λau e a1=>by
   rw[HC] at e;rw[<-HO.lst.inj (bA e)] at a1;let h||h:=PB a1
   .show ao h
   .cases h)
  rw[ae];show⟨⟨?_,ab⟩,al.trans (Mv.set a8 (by rw[a0];simp))⟩;let e:UC p true j=((p.put true j none).tie true j none).tie false k none:=BM (show (p.put true j none).tf[j]?>(some k) from Z);rw[e];rw[fJ ah] at ad;show Lq.twins ad λa2 a5 U=>?_;let(U,ak):=KG.mp U;let aa:=F.tw.back a2 a5 U;let J:a2≠j:=λe=>by
   rw[e,Z] at aa;show ak (bA (bA aa)).symm
  show tT J
theorem DY {K:W.Frag} {H:Hp}:∀{xs:!V} {ks:!(!Key)},Paired (λv k=>∃a,v=V.ref a/\H a>(.tup (k.map kV))) xs ks->IC K H (ks.map λk=>.seq true (UE k)) xs
 |_,_,.nil=>by unfold IC;rfl
 |_,_,.cons ⟨a,e,h⟩ r=>by
  rw[AA];unfold IC;show(_,_,rfl,by subst e;show YI h,DY r)
theorem EY:∀(ks:!(!Key)),AC (ks.map λk=>.seq true (UE k))<=1
 |[]=>by rw[cC];unfold AC;omega
 |k::ks=>by
  rw[AA];unfold AC;let h1:=EY ks;let h2:RC (.seq true (UE k))=1:=by unfold RC;rw[rM]
  omega
theorem FY:∀(ds:!Dv),qD ds []=true
 |[]=>by simp[qD]
 |_::_=>by simp[qD]
theorem eq_nil {ks:!(!Key)}:rD (ks.map λk=>.seq true (UE k)) []=decide (ks=[]):=by
 cases ks<;>simp[rD]
theorem GY {R:V->!Key->Prop}:∀{us:!V} {ks:!(!Key)} {k:!Key},Paired R us (ks++[k])->∃us' v,us=us'++[v]/\Paired R us' ks/\R v k
 |us,[],k,h=>by
  cases h with
  |cons a t=>cases t;show([],_,rfl,.nil,a)
 |us,c::ks,k,h=>by
  cases h with
  |cons a t=>
   let(us',v,rfl,t',r):=GY t;show(_::us',v,rfl,.cons a t',r)
def sp_llg:Sp:=λvs H Q ο=>∃(pl fl sl t:Addr) (L:Lb) (p:St) (f:Bool) (j:Nat) (w:Sh) (n:Int) (k:!Key) (ks:!(!Key)),vs=[.ref pl,.ref t,.int n]/\Lp H L pl fl sl p/\Ap p/\H t>(.tup [.str (EE f),.int (j:Int)])/\(p.rw f)[j]?>(some w)/\w.ks.length < 640/\((n=0/\w.ks=k::ks)\/(n= -1/\w.ks=ks++[k]))/\
 ∀H' h,H' h>(.tup (k.map kV))->Lp H' L pl fl sl (if ks=[] then UC p f j else p.put f j (some {w with ks:=ks}))->Ap (if ks=[] then UC p f j else p.put f j (some {w with ks:=ks}))->Mv [1,2,4] L L H H'->Q (.ref h) H'
theorem JO (T:LD K mg A):oE P w K mg base "_law_let_go" 3 ["_law_plain","_law_spot","_law_at"] [] sp_llg:=by
 show T.Ez.have uS (λvs H Q E F=>?_) ?_
 .let(pl,ad,a1,t,Z,p,f,j,w,n,k,ks,rfl,_):=F;rfl
 .intro ca c9 c8 cn s H vs Q E b9 F;let(pl,ad,a1,t,Z,p,f,j,w,n,k,ks,rfl,W,a7,ax,a3,cf,aa,q):=F;show(_,(OC (mD (i:=3) uS.nd rfl (Or.inl rfl) (BC LC (lC 0) (aH lN rfl T.Bf DB (nC (xH bF (BC ND (lC 1) yC (λο ο=>rfl)) wE (rC _)) wC)) (λο ο=>rfl)))
   (OC (mD (i:=4) uS.nd rfl (Or.inl rfl) (lH PySem.F.plainAttrs_list PySem.F.slot_list_pop PySem.F.type_list_pop OZ (BC LC (BC LC (lC 3) (BC ND (lC 1) yC (λο ο=>rfl)) (λο ο=>rfl)) yC (λο ο=>rfl)) (nC (lC 2) wC)))
   (OC (JD (CD (JK (n:=4) (AI b9)) (BC LC (BC LC (lC 3) (BC ND (lC 1) yC (λο ο=>rfl)) (λο ο=>rfl)) yC (λο ο=>rfl)) (cF wC) (rC _)) (OC (JD (CD bF (BC ND (lC 1) yC (λο ο=>rfl)) wE (rC _)) (FC (kF (XD (qT T) (-b9) WC (nC (lC 0) (nC (BC ND (lC 1) yC (λο ο=>rfl)) wC))))) KD)
   (FC (mF BD (lF (lC 3) (BC ND (lC 1) yC (λο ο=>rfl)) oF)))) KD)
   (FC (sD (lC 4)))))),?_)
  rfl';let(us,ae,cc,bl):=W.q.hf;let(a6,ar,cb,bi):=W.q.hs;let(ck,cm):=W.q.ln;let(c2,ah,l3):=W.q.l1;let a5:=(aA.mp a3).1;obtain⟨O,xs,o,bv,ag,bc,bb,cd,bx,k2,k3,bd,bw,b8⟩:∃O xs o,(WF [V.ref ad,.ref a1,.int (p.h:Int)] (if V.str (EE f)=V.str "slot" then 1 else 0)=↑O)/\H O>(.lst xs)/\xs[j]?=↑w.sh/\H w.sh>(.lst [.ref w.bx,.ref w.hd,oV o])/\H w.bx>(.lst (w.b.map V.int))/\vF H w.hd w.ks/\Z w.sh=2/\Z w.bx=3/\Z w.hd=4/\Z O=1/\(f=true->p.tf[j]?>o/\O=ad)/\(f=false->o=none/\O=a1):=by
   cases f with
   |true=>
    obtain⟨o,a2⟩:∃o,p.tf[j]?>o:=⟨_,cA (by have:j < p.fr.length:=a5;omega)⟩
    let(v,ay,(rfl,ak,al,am,ao,ap,aq)):=bl j _ _ a3 a2;show(ad,us,o,by rw[gA ∅];show CC (j:=0) rfl,ae,ay,ak,al,am,ao,ap,aq,ah,λο=>⟨a2,rfl⟩,λF=>by cases F)
   |false=>
    obtain⟨o,a2⟩:∃o,p.ts[j]?>o:=⟨_,cA (by have:j < p.sr.length:=a5;omega)⟩
    let(v,ay,(rfl,ak,al,am,ao,ap,aq)):=bi j _ _ a3 a2;show(a1,a6,none,by rw[iA (show V.str (EE false)=V.str "slot" from rfl)];show CC (j:=1) rfl,ar,ay,ak,al,am,ao,ap,aq,l3,(λF=>by cases F),λο=>⟨rfl,rfl⟩)
  let(U,af,a8):=bx;let ch:=Paired.length a8;obtain⟨J,a,bt,br,bn,av⟩:∃(J:Nat) (a:Addr),seqIndex? n U.length>J/\U[J]?>(V.ref a)/\H a>(.tup (k.map kV))/\Paired (λv k=>∃a,v=V.ref a/\H a>(.tup (k.map kV))) (U.eraseIdx J) ks:=by
   let(rfl,e)||(rfl,e):=aa
   .rw[e] at a8;cases a8 with
    |cons h t=>
     let(a,rfl,aw):=h;show(0,a,(DQ (GM (n:=_+1) (j:=0) ⋯)).1,rfl,aw,t)
   .rw[e] at a8;let(us',v,rfl,t,a,rfl,aw):=GY a8;show(us'.length,a,?_,by rw[IB (pA _),Nat.sub_self];rfl,aw,?_)
    .let aj:(-1:Int)+((us'++[V.ref a]).length:Int)=(us'.length:Int):=by rw[jA];change -1+((us'.length+1:Nat):Int)=_;omega
     let bg:(us'.length:Int) < ((us'++[V.ref a]).length:Int):=⋯;change (if (decide ((0:Int)<=if (-1:Int) < 0 then -1+((us'++[V.ref a]).length:Int) else -1)&&decide ((if (-1:Int) < 0 then -1+((us'++[V.ref a]).length:Int) else -1) < ((us'++[V.ref a]).length:Int)))=true then some (if (-1:Int) < 0 then -1+((us'++[V.ref a]).length:Int) else -1).toNat else none)=_;rw[iA (show (-1:Int) < 0 by decide),aj,iA (by rw[BA (Int.natCast_nonneg _),BA bg];rfl),gB]
    .rw[List.eraseIdx_append_of_length_le (pA _),Nat.sub_self];change Paired _ (us'++[]) ks;rw[iC];show t
  let b7:w.ks≠[]:=by
   let(_,e)||(_,e):=aa<;>rw[e]<;>simp
  let b4:(-(2 ^ 63):Int)<=n/\n < 2 ^ 63:=by
   let(rfl,_)||(rfl,_):=aa<;>decide
  let lk:=W.ks a7 a3 b7 av;let mk:Mv [1,2,4] Z Z H (upd H w.hd (.lst (U.eraseIdx J))):=Mv.set af (by rw[bd];simp);let kd:∀{c o},H c>o->Z c≠4->upd H w.hd (.lst (U.eraseIdx J)) c>o:=λa0 aa=>by rw[sC (λe=>aa (by rw[e];show bd))];show a0
  let az:∀{c us},H c>(.tup us)->upd H w.hd (.lst (U.eraseIdx J)) c>(.tup us):=λa0=>by rw[sC (HD a0 af nofun)];show a0
  let ce:(U.eraseIdx J).length=ks.length:=Paired.length av;show(_,VC.of ax,_,rfl,rfl,.inr (_,uC.of W.q.hp,_,bv,_,VC.of ax,_,rfl,O,rfl,_,(j:Int),rfl,uC.of ag,_,CC bc,w.sh,rfl,_,uC.of bb,_,CC (j:=1) rfl,.inl (rfl,_,uC.of af),w.hd,U,n,J,_,rfl,rfl,af,b4.1,b4.2,bt,br,?_));let bj:upd H w.hd (.lst (U.eraseIdx J)) O>(.lst xs):=kd ag (by rw[bw];decide);let c0:=kd bb (by rw[k2];decide);let bp:upd H w.hd (.lst (U.eraseIdx J)) w.hd>(.lst (U.eraseIdx J)):=HC;let cg:=kd W.q.hp (by rw[c2];decide);let au:=kd ae (by rw[ah];decide);let a4:=kd ar (by rw[l3];decide);let a9:=az bn;let ab:=az ax;generalize upd H w.hd (.lst (U.eraseIdx J))=G at *;show(_,VC.of ab,_,rfl,O,rfl,_,(j:Int),rfl,uC.of bj,_,CC bc,w.sh,rfl,_,uC.of c0,_,CC (j:=1) rfl,λe b5=>?_);let ac:=(jD (o:=.lst []) b5).1;let bq:=(jD (o:=.lst []) b5).2;show(false,ks.map λk=>.seq true (UE k),[],?_,?_,FY _,by have:=EY ks;omega,_,rfl,?_)
  .unfold ID;show(w.hd,_,rfl,by rw[gA lA];show uC.of (ac _ _ bp),DY (Paired.mapP av λ_ _ ⟨a,e,h⟩=>(a,e,ac _ _ (az h))))
  .unfold ID;show(e,_,rfl,by rw[gA lA];show uC.of bq,by unfold IC;rfl)
  rw[eq_nil];let ai:=lk.same ac;let b0:Mv [1,2,4] Z Z H (upd G e (.lst [])):=mk.trans (Mv.of ac);let D:∀{c o},G c>o->upd G e (.lst []) c>o:=λh=>ac _ _ h;generalize upd G e (.lst [])=G9 at *;let bm:Ap (p.put f j (some {w with ks:=ks})):=tL (r':={w with ks:=ks}) a7 a3 rfl;by_cases c:ks=[]
  .subst c;rw[iA rfl] at q;rw[iA (BA rfl)];let bh:UC (p.put f j (some {w with ks:=[]})) f j=UC p f j:=by
    cases f with
    |true=>change untie ((p.put true j _).put true j none) j=untie (p.put true j none) j;rw[nO]
    |false=>change (p.put false j _).put false j none=p.put false j none;show nO
   show(_,VC.of (D ab),_,rfl,rfl,?_);cases f with
   |true=>
    rw[iA (show V.str (EE true)=V.str "frame" from rfl)];let(a2,rfl):=b8.1 rfl;let b6:(p.put true j (some {w with ks:=[]})).fr[j]?>(some {w with ks:=[]}):=yA a5;show(_,VC.of (D ab),_,rfl,ai.ut b6 λc5 c7 bu b3 cj b2 ci=>?_);obtain rfl:o=c5:=bA (a2.symm.trans bu);let(c3,c4):=W.alone a7 a3 b7;rw[ae] at ag;obtain rfl:us=xs:=HO.lst.inj (bA ag);let aj:a6=c7:=HO.lst.inj (bA ((D a4).symm.trans b3));subst aj;let(z1,z2):=ai.go b6 a2 (D au) (D a4) b2 k2 (c3 us ae) (c4 a6 ar);let b1:∀{c us'},G9 c>(.tup us')->AE G9 a1 {w with ks:=[]} a6 o c>(.tup us'):=λ{c us'} a0=>by
     cases o with
     |none=>show a0
     |some c1=>
      change upd (upd G9 a1 _) w.sh _ c=_;rw[sC (HD a0 b2 nofun),sC (HD a0 b3 nofun)];show a0
    let be:AE G9 a1 {w with ks:=[]} a6 o O>(.lst us):=by
     cases o with
     |none=>show D au
     |some c1=>
      change upd (upd G9 a1 _) w.sh _ O=_;rw[sC (λe=>by rw[e,k2] at ah;cases ah),sC W.q.ne.2.2];show D au
    show(_,VC.of (b1 (D ab)),_,rfl,O,rfl,us,(j:Int),rfl,be,j,GM (by have:j < p.fr.length:=a5;omega),?_);rw[bh] at z1;let co:=z1;show q _ a (by rw[sC (HD (b1 (D a9)) be nofun)];show b1 (D a9)) z1 (pO a7) (b0.trans (z2.sub (by decide)))
   |false=>
    rw[gA ∅];let(_,rfl):=b8.2 rfl;let ba:p.sr[j]?>(some w):=a3;let bz:p.ts[j]?>none:=by
     cases e:p.ts[j]? with
     |none=>show absurd (NB.mp e) (by have:j < p.sr.length:=a5;omega)
     |some o=>cases o with
      |none=>rfl
      |some i=>have:=W.tw.bare i j e;rw[ba] at this;cases this
    show(_,VC.of (D ab),_,rfl,O,rfl,a6,(j:Int),rfl,D a4,j,GM (by have:j < p.sr.length:=a5;omega),?_);let z1:=ai.q.slot (D a4) (j:=j) (v:=.non) (r:=none) (o:=none) rfl;rw[show (p.put false j (some {w with ks:=[]})).ts.set j none=p.ts from fJ bz,show (p.put false j (some {w with ks:=[]})).sr.set j none=p.sr.set j none from AB ..] at z1;show q _ a (by rw[sC (HD (D a9) (D a4) nofun)];show D a9) ⟨z1,W.tw.empt (f:=false) ba⟩ (pO a7) (b0.trans (Mv.set (D a4) (by rw[l3];simp)))
  .rw[gA c] at q;rw[gA (by rw[zA c];decide)];show q G9 a (D a9) ai bm b0
theorem UL {a b:!(!Key)} (h:a.Perm b):KF a=KF b:=by
 unfold KF;rw[YB,List.any_eq_true,List.any_eq_true];show⟨λ⟨x,j,q⟩=>(x,h.mem_iff.mp j,q),λ⟨x,j,q⟩=>(x,h.mem_iff.mpr j,q)⟩
def FI (s:St) (f:Bool) (j:Nat) (f':Bool) (j':Nat) (r q:Sh):St:=UC (s.put f' j' (some (WD q r.ks))) f j
def UD (x:Fs) (p:Bool×Nat):Fs:=match ZC x.s p with
 |none=>x
 |some r=>if KF r.ks=true then x else match x.F.find? λe=>decide (e.1=r.b) with
  |none=>{x with F:=x.F++[(r.b,p)]}
  |some e=>match ZC x.s e.2 with
   |none=>x
   |some q=>{x with s:=FI x.s p.1 p.2 e.2.1 e.2.2 r q,M:=x.M++[(p,e.2)]}
def GD (s:St) (i:Nat):Fs:=((spA s).take i).foldl UD ([],s,[])
theorem O6 {s:St} {i:Nat} {p:Bool×Nat} (h:(spA s)[i]?>p):GD s (i+1)=UD (GD s i) p:=by
 unfold GD;rw[uB,h,List.foldl_append]
 rfl
structure OH (x y:Fs):Prop where
 F:y.F=x.F
 M:y.M=x.M
 s:QD x.s y.s
theorem QD.rw {s p:St} (h:QD s p) (f:Bool):Paired vE (s.rw f) (p.rw f):=by cases f with|true=>show h.fr|false=>show h.sr
theorem QD.lk {s p:St} (h:QD s p) (q:Bool×Nat):vE (ZC s q) (ZC p q):=by
 unfold ZC;let j:=h.rw q.1;let J:=Paired.length j;by_cases c:q.2 < (s.rw q.1).length
 .let(y,D,F):=QG j (cA c);rw[D,cA c];show F
 .rw[CB ⋯,CB ⋯];trivial
theorem QD.put {s p:St} (h:QD s p) {f:Bool} {j:Nat} {a b:Option Sh} (e:vE a b):QD (s.put f j a) (p.put f j b):=by
 cases f with
 |true=>show(CI e j h.fr,h.sr,h.tf,h.ts,h.h)
 |false=>show(h.fr,CI e j h.sr,h.tf,h.ts,h.h)
theorem QD.untie {s p:St} (h:QD s p) {i:Nat}:QD (Pf.untie s i) (Pf.untie p i):=by
 by_cases c:∃j,s.tf[i]?>(some j)
 .let(j,e):=c;rw[BM e,BM (by rw[h.tf];show e)];show(h.fr,h.sr,?_,?_,h.h)
  .change p.tf.set i none=s.tf.set i none;rw[h.tf]
  .change p.ts.set j none=s.ts.set j none;rw[h.ts]
 .rw[ZJ (λj z=>c ⟨j,z⟩),ZJ (λj z=>c ⟨j,by rw[h.tf] at z;show z⟩)];show h
theorem QD.empt {s p:St} (h:QD s p) {f:Bool} {j:Nat}:QD (UC s f j) (UC p f j):=by
 cases f with
 |true=>show (h.put (f:=true) (j:=j) (show vE none none from trivial)).untie
 |false=>show h.put (f:=false) (show vE none none from trivial)
theorem OH.step {x y:Fs} (h:OH x y) (p:Bool×Nat):OH (JE x p) (UD y p):=by
 unfold JE UD;let D:=h.s.lk p;cases O:ZC x.s p with
 |none=>
  rw[O] at D;cases F:ZC y.s p with
  |none=>show h
  |some w=>rw[F] at D;show D.elim
 |some r=>
  rw[O] at D;cases F:ZC y.s p with
  |none=>rw[F] at D;show D.elim
  |some w=>
   rw[F] at D;let(W,V):=D;dsimp only;rw[UL V,W,h.F];by_cases c:KF r.ks=true
   .rw[iA c,iA c];show h
   .rw[gA c,gA c];cases Z:x.F.find? (λe=>decide (e.1=r.b)) with
    |none=>show(by change _++_=_++_;rfl,h.M,h.s)
    |some e=>
     dsimp only;let j:=h.s.lk e.2;cases U:ZC x.s e.2 with
     |none=>
      rw[U] at j;cases J:ZC y.s e.2 with
      |none=>show(h.F,h.M,h.s)
      |some w=>rw[J] at j;show j.elim
     |some q=>
      rw[U] at j;cases J:ZC y.s e.2 with
      |none=>rw[J] at j;show j.elim
      |some v=>
       rw[J] at j;show(by first|rfl|exact h.F,by change y.M++_=x.M++_;rw[h.M],QD.empt (h.s.put (show vE (some (WD q (zD r.ks))) (some (WD v w.ks)) from ⟨j.1,j.2.append (V.trans JG.symm)⟩)))
theorem QD.spA {s p:St} (h:QD s p):spA p=Pf.spA s:=by
 unfold Pf.spA;rw[Paired.length h.fr,Paired.length h.sr]
theorem HY {s p:St} (h:QD s p):∀i,OH (kD s i) (GD p i):=by
 unfold kD GD;rw[h.spA];generalize Pf.spA s=l;intro i;let go:∀(l:!(Bool×Nat)) (x y:Fs),OH x y->OH (l.foldl JE x) (l.foldl UD y):=λl=>by
  induction l with
  |nil=>intro x y h;show h
  |cons a l j=>intro x y h;show j _ _ (h.step a)
 show go _ _ _ (rfl,rfl,h)
theorem IY {s:St} {f:Bool} {j:Nat} {x:Option Sh} {q:Bool×Nat} {w:Sh} (h:ZC (s.put f j x) q>w):x>w\/ZC s q>w:=by
 let D:=OF h;by_cases e:f=q.1/\j=q.2
 .let(rfl,rfl):=e;left;cases J:q.1 with
  |true=>
   rw[J] at D;let D:(s.fr.set q.2 x)[q.2]?>(some w):=D;rw[oA] at D;simp at D;show D.2
  |false=>
   rw[J] at D;let D:(s.sr.set q.2 x)[q.2]?>(some w):=D;rw[oA] at D;simp at D;show D.2
 .right;cases F:(s.rw q.1)[q.2]? with
  |some o=>
   have:=kT (x:=x) F e;rw[D] at this;unfold ZC;rw[F,<-bA this]
   rfl
  |none=>
   exfalso;let O:=(aA.mp D).1;have:((s.put f j x).rw q.1).length=(s.rw q.1).length:=by
    cases f<;>cases q.1<;>simp[St.put,St.rw]
   rw[NB] at F;omega
theorem VL {s:St} {f f':Bool} {j j':Nat} {r D:Sh} {q:Bool×Nat} {w:Sh} (h:ZC (FI s f j f' j' r D) q>w):(True/\w.ks=D.ks++r.ks)\/ZC s q>w:=by
 let e:ZC (FI s f j f' j' r D) q=ZC ((s.put f' j' (some (WD D r.ks))).put f j none) q:=by
  unfold ZC FI St.rw;rw[IL.1,IL.2]
 rw[e] at h;let h||h:=IY h
 .cases h
 .let h||h:=IY h
  .obtain rfl:WD D r.ks=w:=bA h;show .inl ⟨trivial,rfl⟩
  .show .inr h
theorem JY {s:St} {f:Bool} {j:Nat} {x:Option Sh} {q:Bool×Nat} (h:¬(q.1=f/\q.2=j)):ZC (s.put f j x) q=ZC s q:=by
 unfold ZC;rw[EL h]
theorem P6 {s:St} {f:Bool} {j:Nat} {q:Bool×Nat} (h:q.1=f/\q.2=j):ZC (s.put f j none) q=none:=by
 let(rfl,rfl):=h;cases e:ZC (s.put q.1 q.2 none) q with
 |none=>rfl
 |some r=>
  let F:=OF e;let D:=(aA.mp F).1;let O:q.2 < (s.rw q.1).length:=by
   cases J:q.1 with
   |true=>rw[J] at D;let D:q.2 < (s.fr.set q.2 none).length:=D;rw[rA] at D;show D
   |false=>rw[J] at D;let D:q.2 < (s.sr.set q.2 none).length:=D;rw[rA] at D;show D
  rw[AO O] at F;cases F
theorem WL {s:St} {f f':Bool} {j j':Nat} {r D:Sh} {q:Bool×Nat}:ZC (FI s f j f' j' r D) q=ZC ((s.put f' j' (some (WD D r.ks))).put f j none) q:=by
 unfold ZC FI St.rw;rw[IL.1,IL.2]
theorem Q6 {s:St} {f:Bool} {j:Nat} {w:Sh} {q:Bool×Nat} (F:ZC s (f,j)≠none) (h:q.1=f/\q.2=j):ZC (s.put f j (some w)) q>w:=by
 let(rfl,rfl):=h;cases e:ZC s (q.1,q.2) with
 |none=>show absurd e F
 |some r=>
  let D:=(aA.mp (OF e)).1;unfold ZC;rw[AO D];rfl
theorem KY {x:Fs} {y q:Bool×Nat}:(ZC (UD x y).s q≠none->ZC x.s q≠none)/\(q≠y->ZC x.s q≠none->ZC (UD x y).s q≠none):=by
 unfold UD;cases e:ZC x.s y with
 |none=>show⟨id,λο=>id⟩
 |some r=>
  change (ZC (if KF r.ks=true then x else _).s q≠none->_)/\(_->_->ZC (if KF r.ks=true then x else _).s q≠none)
  split
  .show⟨id,λο=>id⟩
  .cases x.F.find? λe=>decide (e.1=r.b) with
   |none=>show⟨id,λο=>id⟩
   |some j=>
    change (ZC (match ZC x.s j.2 with|none=>x|some q=>_).s q≠none->_)/\(_->_->ZC (match ZC x.s j.2 with|none=>x|some q=>_).s q≠none);cases J:ZC x.s j.2 with
    |none=>show⟨id,λο=>id⟩
    |some O=>
     change (ZC (FI x.s y.1 y.2 j.2.1 j.2.2 r O) q≠none->_)/\(_->_->ZC (FI x.s y.1 y.2 j.2.1 j.2.2 r O) q≠none);rw[WL];by_cases c:q.1=y.1/\q.2=y.2
     .show⟨λh=>absurd (P6 c) h,λh=>absurd (Prod.ext c.1 c.2) h⟩
     .rw[JY c];by_cases F:q.1=j.2.1/\q.2=j.2.2
      .let U:ZC x.s q≠none:=by rw[show q=j.2 from Prod.ext F.1 F.2,J];show λD=>nomatch D
       show⟨λο=>U,λο ο=>by rw[Q6 (by rw[show (j.2.1,j.2.2)=j.2 from rfl,J];show λD=>nomatch D) F];show λD=>nomatch D⟩
      .rw[JY F];show⟨id,λο=>id⟩
def QF (p:St):!(Bool×Nat):=(TD p.fr).map (true,·)++(TD p.sr).map (false,·)
theorem aQ {p:St}:QF p=(spA p).filter λq=>(ZC p q).isSome:=by
 unfold QF spA;rw[TB,List.filter_map,List.filter_map]
 rfl
theorem uT {α:Type} (g:α->Bool):∀(l:!α) (i:Nat),i<=(l.filter g).length->∃n,n<=l.length/\(l.take n).filter g=(l.filter g).take i/\∀y,(l.filter g)[i]?>y->l[n]?>y
 |[],i,h=>(0,pA _,by simp,λy hy=>by cases hy)
 |x::l,i,h=>by
  cases c:g x with
  |false=>
   rw[fB (by rw[c];decide)] at h ⊢;let(n,h1,h2,h3):=uT g l i h;show(n+1,by rw[NA];omega,?_,λy hy=>h3 y hy);rw[List.take_succ_cons,fB (by rw[c];decide)];show h2
  |true=>
   rw[nB c] at h ⊢;cases i with
   |zero=>show(0,LB _,rfl,λy hy=>hy)
   |succ i=>
    rw[NA] at h;let(n,h1,h2,h3):=uT g l i ⋯;show(n+1,by rw[NA];omega,?_,λy hy=>h3 y hy);rw[List.take_succ_cons,nB c,List.take_succ_cons,h2]
def EC (p:St) (i:Nat):Fs:=((QF p).take i).foldl UD ([],p,[])
theorem R6 {p:St} {i:Nat} {y:Bool×Nat} (h:(QF p)[i]?>y):EC p (i+1)=UD (EC p i) y:=by
 unfold EC;rw[IM h,List.foldl_append];rfl
theorem vT {p:St}:∀n,n<=(spA p).length->GD p n=(((spA p).take n).filter λq=>(ZC p q).isSome).foldl UD ([],p,[])/\(∀q,ZC (GD p n).s q≠none->ZC p q≠none)/\∀m q,n<=m->(spA p)[m]?>q->ZC p q≠none->ZC (GD p n).s q≠none
 |0,_=>(rfl,λο h=>h,λο ο ο ο h=>h)
 |n+1,hn=>by
  let(h1,h2,h3):=vT (p:=p) n ⋯;obtain⟨y,hy⟩:∃y,(spA p)[n]?>y:=⟨_,cA ⋯⟩
  rw[O6 hy,IM hy,TB,List.foldl_append,<-h1];show(?_,λq hq=>h2 q (KY.1 hq),λm q hm hq hp=>KY.2 (λe=>?_) (h3 m q ⋯ hq hp))
  .cases c:ZC p y with
   |none=>
    rw[fB (by rw[c];decide)];change UD (GD p n) y=GD p n;have:ZC (GD p n).s y=none:=by
     cases e:ZC (GD p n).s y with
     |none=>rfl
     |some r=>show absurd c (h2 y (by rw[e];show λz=>nomatch z))
    unfold UD;rw[this]
   |some r=>rw[nB (by rw[c];rfl)];rfl
  .let(y1,y2):=aA.mp hq;let(y3,y4):=aA.mp hy;show (oB.mp (CO (s:=p))) n m y3 y1 ⋯ (y4.trans (e.symm.trans y2.symm))
theorem T6 {p:St} {i:Nat} (h:i<=(QF p).length):∃n,n<=(spA p).length/\EC p i=GD p n/\∀y,(QF p)[i]?>y->(spA p)[n]?>y/\ZC (GD p n).s y≠none:=by
 rw[aQ] at h;let(n,D,U,F):=uT (λq=>(ZC p q).isSome) (spA p) i h;let(J,V,O):=vT n D;show(n,D,?_,λy j=>?_)
 .unfold EC;rw[J,aQ,U]
 .rw[aQ] at j;show⟨F y j,O n y (pA _) (F y j) λe=>?_⟩;have:=(yB.mp (dA j)).2;rw[e] at this;cases this
theorem U6 {p:St}:EC p (QF p).length=GD p (spA p).length:=by
 let j:=(vT (p:=p) (spA p).length (pA _)).1;rw[j];unfold EC;rw[eB,eB,aQ]
def k1 (k:!Key):V:=match k with
 |x::_=>kV x
 |[]=>.non
theorem V6 {ks:!(!Key)} (tri:∀k∈ks,SE k):iM (V.str "bank") (ks.map k1)=KF ks:=by
 unfold iM KF;rw[List.any_map]
 induction ks with
 |nil=>rfl
 |cons k ks D=>
  rw[List.any_cons,List.any_cons,D λx q=>tri x (kA _ q)];congr 1;let(t,a,b,rfl):=tri k (wA ..);change kH (kV (.inr t)) (kV (.inr (Str.ofString "bank")))=uI [.inr t,.inl a,.inl b];rw[mX];unfold uI;by_cases e:t=Str.ofString "bank"
  .subst e;show (BA rfl).trans (BA rfl).symm
  .show (zA (λj=>e (Sum.inr.inj j))).trans (zA (λj=>e (Sum.inr.inj (bA j)))).symm
theorem W6 {ks:!(!Key)} (tri:∀k∈ks,SE k):(ks.map k1).all bE=true:=by
 rw[List.all_eq_true];intro v q;let(k,j,rfl):=jB.mp q;let(t,a,b,rfl):=tri k j
 rfl
theorem X6 {K:W.Frag} {a J:Addr} {us:!V} {ks:!(!Key)} {H:Hp} {Q:Hp->Prop} {h:EG (BF 0) tYes (wK (AH K) (aG 0) (tC (V.int 0)))} (a2:H J=none) (a7:H a>(.lst us)) (a3:Paired (λv k=>∃a,v=V.ref a/\H a>(.tup (k.map kV))) us ks) (tri:∀k∈ks,SE k) (ae:ks.length<=2000) (q:∀D,pC H D->D J>(.lst (ks.map k1))->Q D):fH (BF 0) tYes (wK (AH K) (aG 0) (tC (V.int 0))) h (lJ K a) [none] J Q H:=by
 let ab:=Paired.length a3;let hz:=PySem.sizeLine_eq;show nM (xs:=us) (λi F Z D=>∃v,Z=[v]/\pC H D/\F=(ks.take i).map k1/\D J>(.lst F)) (_,rfl,gE vD a2,rfl,HC) (λi F Z D _ a1=>by let(_,a1):=a1;show uC.of (a1.2.1 _ _ a7)) (λi v F Z D a9=>?_) (λF Z a4=>?_)
 .rintro⟨ac,rfl,U,rfl,O⟩;let(k,a0,b,rfl,a8):=QG a3 a9;let(t,a5,a6,rfl):=tri k (dA a0);let ad:=(aA.mp a0).1;let aa:ks.take (i+1)=ks.take i++[[.inr t,.inl a5,.inl a6]]:=by rw[uB,a0];rfl
  rfl';show(_,VC.of (U _ _ a8),.str t,CC (j:=0) rfl,O,by rw[fA,dB];omega,qF U a2,?_);rw[aa,MA]
  rfl
 .rintro⟨ac,rfl,U,rfl,O⟩;rw[ab,eB] at O;show q a4 U O
theorem Fi.less {V:St} {i:Nat} {x:Fs} (O:Fi V i x) {sp:Bool×Nat} {j:Sh} (F:ZC x.s sp>j):j.ks.length < 64:=by
 let J:j∈GC x.s:=by
  let q:=OF F;rw[gF];cases D:sp.1 with
  |true=>rw[D] at q;show .inl (dA q)
  |false=>rw[D] at q;show .inr (dA q)
 have:=O.few j.b;let q:j.ks.length<=(((GC x.s).filter λu=>decide (u.b=j.b)).flatMap Sh.ks).length:=by
  let U:j∈(GC x.s).filter λu=>decide (u.b=j.b):=yB.mpr ⟨J,BA rfl⟩;let(W,Z,D):=fC U;rw[D,aC,GA,jA,jA];omega
 omega
theorem Mv.fresh {S:!Nat} {q D:Lb} {H G:Hp} {a:Addr} {o J:HO} (m:Mv S q D H G) (F:H a=none) (O:G a>o):Mv S q D H (upd G a J):=(m.lx,λc x j n=>by rw[sC (mE j F)];show m.kw c x j n,λc j=>by
 by_cases e:c=a
 .rw[e,HC] at j;cases j
 .rw[sC e] at j;show m.dm c j)
theorem Lv.none {L:Lb} {H:Hp} (l:Lv L H) {a:Addr} (h:H a=none):L a=0:=LA λe=>by
 let(us,g):=l a e;rw[h] at g;cases g
theorem Lp.set0 {G:Hp} {q:Lb} {pl D J a:Addr} {p:St} {o F:HO} (h:Lp G q pl D J p) (O:G a>o) (U:¬TF o) (la:q a=0):Lp (upd G a F) q pl D J p:=by
 let V:Zv [] q q G (upd G a F):=(λο=>.inl rfl,λc u j n=>by
  rw[sC (λe=>by
   subst e;let n||n:=n
   .rw[O] at j;cases j;show U n
   .show n.1 la)]
  show j,λc j=>by
   by_cases e:c=a
   .rw[e,HC] at j;cases j
   .rw[sC e] at j;show j)
 show h.zv V λc j=>by
  let(us,g):=h.q.lv c j;show⟨us,by rw[sC (λe=>by rw[e] at j;show j la)];show g⟩
theorem Y6 {us:!V}:¬TF (.lst us):=λ⟨w,h⟩=>by
 let h||(_,h):=h<;>cases h
theorem Z6 {j:!(!Key×V)}:¬TF (.dT j):=λ⟨w,h⟩=>by
 let h||(_,h):=h<;>cases h
theorem Lp.row {H:Hp} {q:Lb} {pl F U:Addr} {p:St} {f:Bool} {j:Nat} {w:Sh} (J:Lp H q pl F U p) (a5:(p.rw f)[j]?>(some w)):∃D xs o,(WF [V.ref F,.ref U,.int (p.h:Int)] (if V.str (EE f)=V.str "slot" then 1 else 0)=↑D)/\H D>(.lst xs)/\xs[j]?=↑w.sh/\H w.sh>(.lst [.ref w.bx,.ref w.hd,oV o])/\H w.bx>(.lst (w.b.map V.int))/\vF H w.hd w.ks/\q w.sh=2/\q w.bx=3/\q w.hd=4/\q D=1/\xs.length=(p.rw f).length/\(f=true->p.tf[j]?>o/\D=F)/\(f=false->o=none/\D=U):=by
 let(us,ab,ac,ad):=J.q.hf;let(af,a8,a9,aa):=J.q.hs;let(ah,ai):=J.q.ln;let(ag,ae,l3):=J.q.l1;let a7:=(aA.mp a5).1;cases f with
 |true=>
  obtain⟨o,O⟩:∃o,p.tf[j]?>o:=⟨_,cA (by have:j < p.fr.length:=a7;omega)⟩
  let(v,a4,(rfl,W,Z,a0,a1,a2,a3)):=ad j _ _ a5 O;show(F,us,o,by rw[gA ∅];show CC (j:=0) rfl,ab,a4,W,Z,a0,a1,a2,a3,ae,ac,λο=>⟨O,rfl⟩,λa6=>by cases a6)
 |false=>
  obtain⟨o,O⟩:∃o,p.ts[j]?>o:=⟨_,cA (by have:j < p.sr.length:=a7;omega)⟩
  let(v,a4,(rfl,W,Z,a0,a1,a2,a3)):=aa j _ _ a5 O;show(U,af,none,by rw[iA (show V.str (EE false)=V.str "slot" from rfl)];show CC (j:=1) rfl,a8,a4,W,Z,a0,a1,a2,a3,l3,a9,(λa6=>by cases a6),λο=>⟨rfl,rfl⟩)
structure YL (H:Hp) (L:Lb) (pl fl sl l fi mo:Addr) (us:!V) (p:St) (i:Nat) (G:Hp):Prop where
 lp:Lp G L pl fl sl (EC p i).s
 ap:Ap (EC p i).s
 nk:∀q w,ZC (EC p i).s q>w->w.ks≠[]
 ll:G l>(.lst us)/\Paired (iF G) us (QF p)
 ff:∃kvs,G fi>(.dT kvs)/\Paired (MP G) kvs (EC p i).F
 mm:∃ms,G mo>(.lst ms)/\Paired (cJ G) ms (EC p i).M
 mv:Mv [1,2,4] L L H G
theorem YL.stay {H:Hp} {D:Lb} {pl F O l fi J:Addr} {us:!V} {p:St} {i:Nat} {G j:Hp} (h:YL H D pl F O l fi J us p i G) (s:pC G j) (e:EC p (i+1)=EC p i):YL H D pl F O l fi J us p (i+1) j:=by
 let(fs,U,W):=h.ff;let(ms,a0,a1):=h.mm;show(by rw[e];show h.lp.same s,by rw[e];show h.ap,by rw[e];show h.nk,⟨s _ _ h.ll.1,Paired.mapP h.ll.2 λο ο q=>q.same s⟩,(fs,s _ _ U,by rw[e];show Paired.mapP W λ_ _ ⟨a2,a3⟩=>⟨a2,a3.same s⟩),(ms,s _ _ a0,by rw[e];show Paired.mapP a1 λο ο q=>q.to λc us Z=>s _ _ Z),h.mv.trans (Mv.of s))
theorem bQ {rows:!(Option Sh)} {i:Nat} (h:i < (TD rows).length):∃k,(TD rows)[i]?>k/\(oG rows)[i]?>(.int (k:Int)):=by
 show(_,cA h,?_);unfold oG;rw[FA,cA h];rfl
def KO (a b:Hp):Prop:=a=b
def LO (G:Hp) (p2 mo:Addr) (us ms:!V) (G':Hp):Prop:=G p2=none/\G'=upd (upd G p2 (.tup us)) mo (.lst (ms++[.ref p2]))
theorem Lp.leave {G:Hp} {J:Lb} {pl Z F:Addr} {s:St} {f:Bool} {j:Nat} {r:Sh} {O:Addr} {xs W:!V} {o:Option Nat} (q:Lp G J pl Z F s) (a3:Ap s) (D:(s.rw f)[j]?>(some r)) (a4:r.ks≠[]) (U:G O>(.lst xs)) (a0:G F>(.lst W)) (a2:G r.sh>(.lst [.ref r.bx,.ref r.hd,oV o])) (a7:J r.sh=2) (a1:(f=true->s.tf[j]?>o/\O=Z)/\(f=false->o=none/\O=F)):Lp (upd (if f=true then AE G F r W o else G) O (.lst (xs.set j .non))) J pl Z F (UC s f j)/\Mv [1,2] J J G (upd (if f=true then AE G F r W o else G) O (.lst (xs.set j .non))):=by
 cases f with
 |true=>
  let(a5,rfl):=a1.1 rfl;let(a8,a9):=q.alone a3 D a4;rw[iA rfl];show q.go D a5 U a0 a2 a7 (a8 xs U) (a9 W a0)
 |false=>
  let(_,rfl):=a1.2 rfl;let D:s.sr[j]?>(some r):=D;let aa:=(aA.mp D).1;let a6:s.ts[j]?>none:=by
   cases e:s.ts[j]? with
   |none=>show absurd (NB.mp e) (by have:=q.q.ln.2;omega)
   |some o=>cases o with
    |none=>rfl
    |some i=>have:=q.tw.bare i j e;rw[D] at this;cases this
  rw[gA lA];let z1:=q.q.slot U (j:=j) (v:=.non) (r:=none) (o:=none) rfl;rw[fJ a6] at z1;show⟨⟨z1,q.tw.empt (f:=false) D⟩,Mv.set U (by rw[q.q.l1.2.2];simp)⟩
def g7 (I:Prop) (F:!(!Int×(Bool×Nat))) (b:!Int) (t t2:Addr) (G G':Hp):Prop:=(t2=t/\I)\/∃e2,F.find? (λe=>decide (e.1=b))>e2/\iF G' (.ref t2) e2.2/\pC G G'
def sp_lfd:Sp:=λvs H Q ο=>∃(pl fl sl:Addr) (L:Lb) (s p:St),vs=[.ref pl]/\Lp H L pl fl sl p/\Ap p/\QD s p/\Fi s 0 ([],s,[])/\(∀q w,ZC p q>w->w.ks≠[])/\p.fr.length<=64/\p.sr.length<=64/\∀H' mo us,Lp H' L pl fl sl (GD p (spA p).length).s->Ap (GD p (spA p).length).s->H mo=none->H' mo>(.lst us)->Paired (cJ H') us (GD p (spA p).length).M->Mv [1,2,4] L L H H'->Q (.ref mo) H'
theorem MO (T:LD K mg A):oE P w K mg base "_law_folded" 3 ["_law_plain"] [] sp_lfd:=by
 show T.E1.have QJ (λvs H Q E J=>?_) ?_
 .let(pl,aq,a7,a2,s,p,rfl,_):=J;rfl
 .intro f gz gv hr s H vs Q E bw J;let(pl,aq,a7,a2,dc,p,rfl,b3,f7,cf,fg,fn,e7,e8,q):=J;show(_,(AD (oM (i:=1) QJ.nd rfl rfl rfl (vH (XD (VP T) (-bw) WC (nC (lC 0) (nC wE wC)))) (x:="_law_k") (fs:=[]) (ix:=[]) rfl rfl (λο ο ο ο ο ο=>(jE (i:=0) (show (["_law_k"]:!Str).Nodup by decide+kernel) rfl (Or.inl rfl))) (λο ο ο ο ο ο=>FG) (λο ο ο ο ο ο=>(aF (nC wE (nC (lC 0) wC)))))
   (OC (mD (i:=2) QJ.nd rfl (Or.inl rfl) (cF wC))
   (OC (mD (i:=3) QJ.nd rfl (Or.inl rfl) sW)
   (AD (DG RA rfl (vH (KC uJ (lC 1) (FH rfl (vH (XD (VP T) (-bw) WC (nC (lC 0) (nC wE wC)))) (x:="_law_k") (fs:=[]) (ix:=[]) rfl rfl (λο ο ο ο ο ο=>(jE (i:=0) (show (["_law_k"]:!Str).Nodup by decide+kernel) rfl (Or.inl rfl))) (λο ο ο ο ο ο=>FG) (λο ο ο ο ο ο=>(aF (nC wE (nC (lC 0) wC))))))) (jE (i:=4) QJ.nd rfl (Or.inl rfl)) (AD (mD (i:=5) QJ.nd rfl (Or.inl rfl) (BC LC (lC 0) (aH lN rfl T.Bf DB (nC (xH bF (BC ND (lC 4) yC (λο ο=>rfl)) wE (rC _)) wC)) (λο ο=>rfl)))
   (AD (mD (i:=6) QJ.nd rfl (Or.inl rfl) (BC LC (lC 5) (BC ND (lC 4) yC (λο ο=>rfl)) (λο ο=>rfl)))
   (AD (JD (CD GQ wE (FH rfl (vH (BC LC (lC 6) yC (λο ο=>rfl))) (x:="_law_holder") (fs:=[]) (ix:=[]) rfl rfl (λο ο ο ο ο ο=>(jE (i:=0) (show (["_law_holder"]:!Str).Nodup by decide+kernel) rfl (Or.inl rfl))) (λο ο ο ο ο ο=>FG) (λο ο ο ο ο ο=>(BC (KW (K:=K) rfl) (lC 0) yC (λο ο=>rfl)))) (by with_unfolding_all rfl)) (FC iZ) KD)
   (AD (mD (i:=7) QJ.nd rfl (Or.inl rfl) (oX (xN bw) (lC 3) (aH jW rfl T.Ck PyProof.Rows.boot_tuple (nC (BC LC (lC 6) yC (λο ο=>rfl)) wC)) (lC 4) (rfl,rfl,rfl,rfl)))
   (FC (JD (CD (mM (n:=4) (AI bw)) (lC 7) (lC 4) (rC _)) (AD (kF (lH PySem.F.plainAttrs_list PySem.F.slot_list_extend PySem.F.type_list_extend NZ (BC LC (BC LC (BC LC (lC 0) (aH lN rfl T.Bf DB (nC (xH bF (BC ND (lC 7) yC (λο ο=>rfl)) wE (rC _)) wC)) (λο ο=>rfl)) (BC ND (lC 7) yC (λο ο=>rfl)) (λο ο=>rfl)) yC (λο ο=>rfl)) (nC (BC LC (lC 6) yC (λο ο=>rfl)) wC)))
   (AD (kF (lH PySem.F.plainAttrs_list PySem.F.slot_list_append PySem.F.type_list_append BH (lC 2) (nC (aF (nC (lC 4) (nC (lC 7) wC))) wC)))
   (AD (JD (CD bF (BC ND (lC 4) yC (λο ο=>rfl)) wE (rC _)) (FC (kF (XD (qT T) (-bw) WC (nC (lC 0) (nC (BC ND (lC 4) yC (λο ο=>rfl)) wC))))) KD)
   (FC (mF BD (lF (lC 5) (BC ND (lC 4) yC (λο ο=>rfl)) oF)))))) KD)))))))
   (FC (sD (lC 2))))))),?_)
  let hz:=PySem.sizeLine_eq;let ho:(TD p.fr).length<=64:=by have:=HM (rows:=p.fr) (k:=p.fr.length);unfold TD;omega
  let hp:(TD p.sr).length<=64:=by have:=HM (rows:=p.sr) (k:=p.sr.length);unfold TD;omega
  let eg:∀(b:Bool) (i k:Nat) (rows:!(Option Sh)),(TD rows)[i]?>k->((TD rows).take (i+1)).map (λx=>(b,x))=((TD rows).take i).map (λx=>(b,x))++[(b,k)]:=λb i k rows h=>by rw[IM h,MA];rfl
  show(λO G=>∃l us,O=[↑pl,↑l,none,none,none,none,none,none]/\pC H G/\H l=none/\G l>(.lst us)/\Paired (iF G) us ((TD p.fr).map (true,·)),?_,λi9 eo=>?_)
  .rfl';show(pl,aq,a7,a2,p,true,rfl,b3,e7,e8,λeq ea s1 dz c4=>(ea,rfl,⟨_,uC.of c4⟩,λb9 av=>?_));show nM (xs:=oG p.fr) (λi a0 O a4=>∃v,O=[v]/\pC eq a4/\a4 b9>(.lst a0)/\Paired (iF a4) a0 (((TD p.fr).take i).map (true,·))) (_,rfl,gE vD av,HC,.nil) (λi a0 O a4 _ ak=>by let(_,ak):=ak;show uC.of (ak.2.1 _ _ c4)) (λi v a0 O a4 aw=>?_) (λa0 O a4=>?_)
   .rintro⟨c3,rfl,ar,b1,af⟩;let cd:i < (TD p.fr).length:=by have:=(aA.mp aw).1;unfold oG at this;rw[fA] at this;show this
    let(k,bu,ai):=bQ cd;rw[aw] at ai;obtain rfl:=bA ai;rfl';intro t ax;let(al,bj):=jD (o:=.tup [V.str "frame",V.int (k:Int)]) ax;let bq:=al _ _ b1;let d8:=Paired.length af;rw[fA,dB] at d8;generalize upd a4 t _=J2 at *;let ad:∀{c o},J2 c>o->(∀us,o≠.lst us)->upd J2 b9 (.lst (a0++[V.ref t])) c>o:=λD ah=>by rw[sC (HD D bq (λe=>ah _ e))];show D
    show(bq,⋯,qF (ar.trans al) av,?_);rw[eg _ _ _ _ bu];show UG (Paired.mapP af λ_ _ ⟨a,e,q⟩=>(a,e,ad (al _ _ q) (λο J=>nomatch J))) (t,rfl,ad bj (λο J=>nomatch J))
   .rintro⟨c3,rfl,ar,b1,af⟩;rw[show (oG p.fr).length=(TD p.fr).length from fA .., eB] at af;show(s1.trans ar,xD s1 av,_,b1,af)
  rintro⟨l,us,rfl,s1,hc,dz,af⟩;rfl';intro a1 e1;unfold tDNewT;rfl';intro fi ag;let(al,c4):=jD (o:=.lst []) e1;let(dj,dn):=jD (o:=.dT []) ag;let dl:=dj _ _ c4;let d5:=xD s1 e1;let dw:=xD s1 (xD al ag);let gc:a1≠fi:=λe=>by rw[<-e,HC] at ag;cases ag
  let ar:=al.trans dj;let dd:=s1.trans ar;let d2:=Paired.mapP af λο ο q=>q.same ar;let fh:=ar _ _ dz;generalize upd (upd eo a1 _) fi _=G2 at *;let ec:=b3.same dd;let bx:=b3.q.lv.none d5;let da:=b3.q.lv.none dw;show(λO G=>∃b7 b8 b0 am,O=[↑pl,↑l,↑a1,↑fi,b7,b8,b0,am]/\∃ac b6,YL H a2 pl aq a7 ac fi a1 b6 p (QF p).length G,?_,λia Z=>?_)
  .rfl';show(pl,aq,a7,a2,p,false,rfl,ec,e7,e8,λer l3 eh he cu=>(l3,rfl,⟨_,uC.of cu⟩,λb9 av=>?_));show nM (xs:=oG p.sr) (λi a0 O a4=>∃v,O=[v]/\pC er a4/\a4 b9>(.lst a0)/\Paired (iF a4) a0 (((TD p.sr).take i).map (false,·))) (_,rfl,gE vD av,HC,.nil) (λi a0 O a4 _ ak=>by let(_,ak):=ak;show uC.of (ak.2.1 _ _ cu)) (λi v a0 O a4 aw=>?_) (λa0 O a4=>?_)
   .rintro⟨c3,rfl,ar,b1,af⟩;let cd:i < (TD p.sr).length:=by have:=(aA.mp aw).1;unfold oG at this;rw[fA] at this;show this
    let(k,bu,ai):=bQ cd;rw[aw] at ai;obtain rfl:=bA ai;rfl';intro t ax;let(al,bj):=jD (o:=.tup [V.str "slot",V.int (k:Int)]) ax;let bq:=al _ _ b1;let d8:=Paired.length af;rw[fA,dB] at d8;generalize upd a4 t _=J2 at *;let ad:∀{c o},J2 c>o->(∀us,o≠.lst us)->upd J2 b9 (.lst (a0++[V.ref t])) c>o:=λD ah=>by rw[sC (HD D bq (λe=>ah _ e))];show D
    show(bq,⋯,qF (ar.trans al) av,?_);rw[eg _ _ _ _ bu];show UG (Paired.mapP af λ_ _ ⟨a,e,q⟩=>(a,e,ad (al _ _ q) (λο J=>nomatch J))) (t,rfl,ad bj (λο J=>nomatch J))
   .rintro⟨c3,rfl,ei,b1,cc⟩;rw[show (oG p.sr).length=(TD p.sr).length from fA .., eB] at cc;let bf:=eh.trans ei;let gm:=Paired.length d2;let gu:=Paired.length cc;rw[fA] at gm gu;show(us,bf _ _ fh,a0,b1,⋯,λac ba=>?_);let(dk,dp):=jD (o:=.lst (us++a0)) ba;let bg:=bf.trans dk;let d3:Paired (iF (upd a4 ac (.lst (us++a0)))) (us++a0) (QF p):=LP (Paired.mapP d2 λο ο h=>h.same bg) (Paired.mapP cc λο ο h=>h.same dk);let gb:ac≠a1:=λe=>by rw[e,bf _ _ dl] at ba;cases ba
    let hq:ac≠fi:=λe=>by rw[e,bf _ _ dn] at ba;cases ba
    let fb:YL H a2 pl aq a7 ac fi a1 (us++a0) p 0 (upd a4 ac (.lst (us++a0))):=(ec.same bg,f7,fn,⟨dp,d3⟩,([],bg _ _ dn,.nil),([],bg _ _ dl,.nil),Mv.of (dd.trans bg))
    let fj:H ac=none:=xD (dd.trans bf) ba;let e4:(QF p).length=(us++a0).length:=(Paired.length d3).symm;let ht:(QF p).length<=128:=by rw[e4,jA];omega
    generalize upd a4 ac (.lst (us++a0))=G3 at *;generalize us++a0=b6 at *;clear d2 cc d3 af ei bf bg cu eh;show⟨⟨_,uC.of dp⟩,HK (K:=K) (xs:=b6) (λi O G=>∃b7 b8 b0 am,O=[↑pl,↑l,↑a1,↑fi,b7,b8,b0,am]/\YL H a2 pl aq a7 ac fi a1 b6 p i G) (_,_,_,_,rfl,fb) (λi O G _ ak=>by let(_,_,_,_,ak):=ak;show uC.of ak.2.ll.1) (λi v O G aw=>?_) (λO G=>?_)⟩
    .rintro⟨b7,b8,b0,am,rfl,U⟩;let(sp,ce,t,rfl,ax):=QG U.ll.2 aw;let cd:=(aA.mp ce).1;let(n,ah,ez,fm):=T6 (p:=p) (i:=i) ⋯;let(fq,dv):=fm sp ce;let ag:=NP fg n (by rw[<-cf.spA];show ah);let bd:=HY cf n;let a3:=R6 ce;rw[<-ez] at dv bd;obtain⟨r,e⟩:∃r,ZC (EC p i).s sp>r:=by
      cases e:ZC (EC p i).s sp with
      |none=>show absurd e dv
      |some r=>show⟨r,rfl⟩
     let(aj,xs,tw,fv,e6,e5,c7,ev,(ts,cv,cw),bl,h3,h0,c8,hk,bv):=U.lp.row (OF e);let fx:∃az,ZC (kD dc n).s sp>az/\r.b=az.b/\r.ks.Perm az.ks:=by
      let a5:=bd.s.lk sp;rw[e] at a5;cases bm:ZC (kD dc n).s sp with
      |none=>rw[bm] at a5;show a5.elim
      |some az=>rw[bm] at a5;show(az,rfl,a5)
     let(az,bm,h7,dy):=fx;let f4:az∈GC (kD dc n).s:=by
      let a5:=OF bm;rw[gF];cases bn:sp.1 with
      |true=>rw[bn] at a5;show .inl (dA a5)
      |false=>rw[bn] at a5;show .inr (dA a5)
     let tri:∀k∈r.ks,SE k:=λk bu=>ag.tri k (eC.mpr (az,f4,dy.mem_iff.mp bu));let few:r.ks.length < 64:=by rw[dy.length_eq];show ag.less bm
     let fu:r.ks≠[]:=U.nk _ _ e;rfl';show(λO a9=>O=[↑pl,↑l,↑a1,↑fi,↑t,↑aj,b0,am]/\G=a9,?_,λib gw=>?_)
     .rfl';show(_,VC.of ax,_,rfl,rfl,.inr (_,uC.of U.lp.q.hp,_,fv,rfl))
     rintro⟨rfl,rfl⟩;show(λO a9=>O=[↑pl,↑l,↑a1,↑fi,↑t,↑aj,↑r.sh,am]/\G=a9,?_,λic gx=>?_)
     .rfl';show(_,VC.of ax,_,rfl,_,(sp.2:Int),rfl,uC.of e6,_,CC e5,rfl)
     rintro⟨rfl,rfl⟩;show(λO a9=>O=[↑pl,↑l,↑a1,↑fi,↑t,↑aj,↑r.sh,am]/\KF r.ks=false/\pC G a9,?_,λie cp=>?_)
     .rfl';show(_,uC.of c7,_,CC (j:=1) rfl,_,rfl,⟨_,uC.of cv⟩,λb9 av=>X6 av cv cw tri ⋯ λgy s' f9=>?_);show(_,.inl (uC.of f9),rfl,W6 tri,?_);rw[gA (show ¬(false=true) from lA),V6 tri];by_cases c:KF r.ks=true
      .rw[iA c];unfold tCont;show(_,_,_,_,rfl,U.stay s' ?_);rw[a3];unfold UD;rw[e];show iA c
      .rw[gA c];show⟨by simpa using c,s'⟩
     rintro⟨rfl,ff,c1⟩;let a3:EC p (i+1)=match (EC p i).F.find? λe=>decide (e.1=r.b) with
      |none=>{EC p i with F:=(EC p i).F++[(r.b,sp)]}
      |some e=>match ZC (EC p i).s e.2 with
       |none=>EC p i
       |some q=>{EC p i with s:=FI (EC p i).s sp.1 sp.2 e.2.1 e.2.2 r q,M:=(EC p i).M++[(sp,e.2)]}:=by
      rw[a3];unfold UD;rw[e];change (if KF r.ks=true then EC p i else _)=_;rw[gA (by rw[ff];decide)]
      all_goals rfl
     let(b4,cy,cz):=U.ff;let(ms,bz,be):=U.mm;show(λO a9=>∃ae,O=[↑pl,↑l,↑a1,↑fi,↑t,↑aj,↑r.sh,↑ae]/\g7 (YL H a2 pl aq a7 ac fi a1 b6 p (i+1) a9) (EC p i).F r.b t ae cp a9,?_,λig cq=>?_)
     .let f1:r.b.map V.int=(wF r.b).map kV:=by unfold wF;rw[List.map_map];rfl
      let hb:=Paired.length cz;let h8:(EC p i).F.length<=128:=by
       let d1:=ag.fl;rw[<-bd.F] at d1;have:=cf.spA;let a5:(spA p).length<=128:=by
        unfold spA;rw[jA,fA,fA,WA,WA];omega
       omega
      unfold iH;rfl';show(.inr ⟨_,.inl (c1 _ _ cy)⟩,_,uC.of (c1 _ _ c7),_,CC (j:=0) rfl,r.bx,rfl,_,.inl ⟨uC.of (c1 _ _ ev),λek fy=>?_⟩);let(ab,c5):=jD (o:=.tup (r.b.map V.int)) fy;let au:=c1.trans ab;let cb:=au _ _ cy;let dq:Paired (MP (upd cp ek (.tup (r.b.map V.int)))) b4 (EC p i).F:=Paired.mapP cz λ_ _ ⟨c0,a6⟩=>⟨c0,a6.same au⟩
      let ap:=rY dq (b:=r.b);generalize upd cp ek (.tup (r.b.map V.int))=aa at *;show(b4,cb,wF r.b,by rw[f1],⋯,λv ai=>?_,λai=>?_)
      .cases ao:(EC p i).F.find? λe=>decide (e.1=r.b) with
       |none=>rw[ao] at ap;let ap:tD b4 (wF r.b)=none:=ap;rw[ai] at ap;cases ap
       |some W=>
        rw[ao] at ap;let(c3,bp,(t',rfl,cg),h5):=ap;rw[ai] at bp;obtain rfl:=bA bp;show(t',rfl,.inr (W,ao,(t',rfl,cg),ab))
      .cases ao:(EC p i).F.find? λe=>decide (e.1=r.b) with
       |some W=>rw[ao] at ap;let(c3,bp,_):=ap;rw[ai] at bp;cases bp
       |none=>
        rw[ao] at a3;let a3:EC p (i+1)={EC p i with F:=(EC p i).F++[(r.b,sp)]}:=a3;rw[show lE b4 (wF r.b) (.ref t)=b4++[(wF r.b,.ref t)] from XS ai];let ad:∀{c o},aa c>o->(∀us,o≠.dT us)->upd aa fi (.dT (b4++[(wF r.b,.ref t)])) c>o:=λD ah=>by rw[sC (HD D cb (λe=>ah _ e))];show D
        show .inl (rfl,by rw[a3];show (U.lp.same au).set0 cb Z6 da,by rw[a3];show U.ap,by rw[a3];show U.nk,⟨ad (au _ _ U.ll.1) (λο J=>nomatch J),Paired.mapP U.ll.2 λ_ _ ⟨a,e,q⟩=>(a,e,ad (au _ _ q) (λο J=>nomatch J))⟩,(_,HC,?_),(ms,ad (au _ _ bz) (λο J=>nomatch J),by rw[a3];show Paired.mapP be λο ο q=>q.to λc us D=>ad (au _ _ D) (λο J=>nomatch J)),(U.mv.trans (Mv.of au)).fresh dw cb);rw[a3];show UG (Paired.mapP dq λ_ _ ⟨c0,a,e,q⟩=>(c0,a,e,ad q (λο J=>nomatch J))) (rfl,t,rfl,ad (au _ _ ax) (λο J=>nomatch J))
     rintro⟨ae,rfl,fa⟩;rfl';let(rfl,dt)||(W,ao,(hu,ey,ch),gj):=fa
     .let(hs,e2,t',f0,cg):=QG dt.ll.2 aw;cases f0;rw[ce] at e2;obtain rfl:=bA e2;show(true,UE (EI sp),UE (EI sp),YI cg,YI cg,ON _ _,by rw[rM];omega,_,rfl,?_);rw[NN,BA rfl,gA (by decide)];show dt
     cases ey;let a8:=c1.trans gj;let ci:=a8 _ _ ax;let((gg,e3,hg,_),et,fc,bn):=ag.first W (by rw[<-bd.F];show List.mem_of_find?_eq_some ao);let di:¬(W.2.1=sp.1/\W.2.2=sp.2):=λJ=>by
      let ep:W.2=sp:=Prod.ext J.1 J.2;rw[ep,<-cf.spA] at bn;let(gq,gr):=aA.mp bn;let(gs,gt):=aA.mp fq;show (oB.mp (CO (s:=p))) et n gq gs fc (gr.trans gt.symm)
     obtain⟨a6,bc,ft⟩:∃a6,ZC (EC p i).s W.2>a6/\a6.ks.Perm gg.ks:=by
      let a5:=bd.s.lk W.2;rw[e3] at a5;cases c9:ZC (EC p i).s W.2 with
      |none=>rw[c9] at a5;show a5.elim
      |some q=>rw[c9] at a5;show(q,rfl,a5.2)
     let h6:a6.ks.length < 64:=by rw[ft.length_eq];show ag.less e3
     rw[ao] at a3;let a3:EC p (i+1)={EC p i with s:=FI (EC p i).s sp.1 sp.2 W.2.1 W.2.2 r a6,M:=(EC p i).M++[(sp,W.2)]}:=by
      have:=a3;dsimp only at this;rw[bc] at this;show this
     show(true,UE (EI W.2),UE (EI sp),YI ch,YI ci,ON _ _,by rw[rM];omega,_,rfl,?_);rw[NN,zA (λJ=>di (by have:=tY J;rw[this];show⟨rfl,rfl⟩)),iA (by decide)];let(gi,i2,hv,fw,g2,g1,gp,hw,(df,co,el),hx,i1,em,hy,hm,hf):=U.lp.row (OF bc);let ha:=Paired.length el;let h9:=Paired.length cw;let ed:=U.lp.same a8;show(λO a9=>O=[↑pl,↑l,↑a1,↑fi,↑t,↑aj,↑r.sh,↑ae]/\KO a9 (upd cq a6.hd (.lst (df++ts))),?_,λih aa=>?_)
     .rfl';show(_,VC.of ch,_,rfl,rfl,.inr (_,uC.of ed.q.hp,_,fw,_,VC.of ch,_,rfl,gi,rfl,_,(W.2.2:Int),rfl,uC.of (a8 _ _ g2),_,CC g1,a6.sh,rfl,_,uC.of (a8 _ _ gp),_,CC (j:=1) rfl,.inl (rfl,_,uC.of (a8 _ _ co)),_,uC.of (a8 _ _ c7),_,CC (j:=1) rfl,?_));unfold rExtend;show(a6.hd,r.hd,df,ts,rfl,rfl,a8 _ _ co,a8 _ _ cv,⋯,rfl)
     rintro⟨rfl,br⟩;let dh:Ap ((EC p i).s.put W.2.1 W.2.2 (some (WD a6 r.ks))):=tL (r':=WD a6 r.ks) U.ap (OF bc) rfl;let g3:Lp aa a2 pl aq a7 ((EC p i).s.put W.2.1 W.2.2 (some (WD a6 r.ks))):=by
      rw[show aa=_ from br];show Lp.ks (ks':=a6.ks++r.ks) (us':=df++ts) ed U.ap (OF bc) (U.nk _ _ bc) (LP (Paired.mapP el λ_ _ ⟨a,e,q⟩=>(a,e,a8 _ _ q)) (Paired.mapP cw λ_ _ ⟨a,e,q⟩=>(a,e,a8 _ _ q)))
     let g9:Mv [1,2,4] a2 a2 H aa:=by
      rw[show aa=_ from br];show (U.mv.trans (Mv.of a8)).trans (Mv.set (a8 _ _ co) (by rw[em];simp))
     let d9:∀{c o},G c>o->a2 c≠4->aa c>o:=λD ah=>by rw[show aa=_ from br,sC (λe=>ah (by rw[e];show em))];show a8 _ _ D
     let gk:∀{c us},cq c>(.tup us)->aa c>(.tup us):=λD=>by rw[show aa=_ from br,sC (HD D (a8 _ _ co) nofun)];show D
     clear br;show(λO a9=>O=[↑pl,↑l,↑a1,↑fi,↑t,↑aj,↑r.sh,↑ae]/\∃b5,LO aa b5 a1 [.ref t,.ref ae] ms a9,?_,λii Z=>?_)
     .rfl';let ay:=d9 bz (by rw[bx];decide);show⟨.inl (rfl,_,uC.of ay),λb5 bb=>?_⟩;let g8:ms.length < 16777216:=by
       have:=Paired.length be;let d1:=ag.ml;rw[<-bd.M] at d1;let a5:(spA p).length<=128:=by
        unfold spA;rw[jA,fA,fA,WA,WA];omega
       omega
      show(ms,(jD bb).1 _ _ ay,g8,b5,bb,rfl)
     rintro⟨rfl,b5,bb,b2⟩;let ay:=d9 bz (by rw[bx];decide);let ab:=(jD (o:=.tup [V.ref t,V.ref ae]) bb).1;let c5:=(jD (o:=.tup [V.ref t,V.ref ae]) bb).2;let cn:Lp Z a2 pl aq a7 ((EC p i).s.put W.2.1 W.2.2 (some (WD a6 r.ks))):=by rw[b2];show (g3.same ab).set0 (ab _ _ ay) Y6 bx
     let ga:Mv [1,2,4] a2 a2 H Z:=by rw[b2];show (g9.trans (Mv.of ab)).fresh d5 (ab _ _ ay)
     let g5:Z a1>(.lst (ms++[.ref b5])):=by rw[b2];show HC
     let gl:∀{c us},aa c>(.tup us)->Z c>(.tup us):=λD=>by rw[b2,sC (HD (ab _ _ D) (ab _ _ ay) nofun)];show ab _ _ D
     let bj:Z b5>(.tup [V.ref t,V.ref ae]):=by rw[b2,sC (HD c5 (ab _ _ ay) nofun)];show c5
     let ck:∀{c o},G c>o->a2 c≠4->c≠a1->Z c>o:=λD ah fk=>by rw[b2,sC fk];show ab _ _ (d9 D ah)
     let c2:∀{c us},cq c>(.tup us)->Z c>(.tup us):=λD=>gl (gk D);let ef:∀{c},a2 c≠0->c≠a1:=λD e=>D (by rw[e];show bx);let d4:(((EC p i).s.put W.2.1 W.2.2 (some (WD a6 r.ks))).rw sp.1)[sp.2]?>(some r):=kT (OF e) di;let eu:=ck c7 (by rw[bl];decide) (ef (by rw[bl];decide));let d7:=ck e6 (by rw[c8];decide) (ef (by rw[c8];decide));let(bi,dr,_):=cn.q.hs;let ej:((EC p i).s.put W.2.1 W.2.2 (some (WD a6 r.ks))).tf=(EC p i).s.tf:=by cases W.2.1<;>rfl
     let(g4,ee):=cn.leave dh d4 fu d7 dr eu bl (by rw[ej];show bv);clear b2 ab c5 ay bb;show(λO a9=>O=[↑pl,↑l,↑a1,↑fi,↑t,↑aj,↑r.sh,↑ae]/\KO a9 (if sp.1=true then AE Z a7 r bi tw else Z),?_,λij cr=>?_)
     .rfl';show(_,VC.of (c2 ci),_,rfl,rfl,?_);cases ca:sp.1 with
      |false=>
       rw[gA ∅]
       rfl
      |true=>
       rw[iA (show V.str (EE true)=V.str "frame" from rfl)];rw[ca] at d4 bv;show(_,VC.of (c2 ci),_,rfl,cn.ut d4 λgf gn fo f2 hj h4 hh=>?_);let c9:tw=gf:=bA (((bv.1 rfl).1).symm.trans (by rw[<-ej];show fo));let ew:bi=gn:=HO.lst.inj (bA (dr.symm.trans f2));subst c9 ew
       rfl
     rintro⟨rfl,bt⟩;rfl';let bt:cr=if sp.1=true then AE Z a7 r bi tw else Z:=bt
     let(ea,hn,l3):=b3.q.l1;let e9:∀{c o},Z c>o->c≠a7->c≠r.sh->cr c>o:=λ{c o} D f5 f6=>by
      rw[bt]
      split
      .cases tw with
       |none=>show D
       |some k=>change upd (upd Z a7 _) r.sh _ c=_;rw[sC f6,sC f5];show D
      .show D
     let g0:cr aj>(.lst xs):=by
      cases ca:sp.1 with
      |true=>
       rw[ca] at bv;have:=(bv.1 rfl).2;show e9 d7 (by rw[this];show b3.q.ne.2.2) (λe=>by rw[e,bl] at c8;cases c8)
      |false=>rw[bt,ca,gA lA];show d7
     let db:∀{c us},Z c>(.tup us)->a2 c=0:=λD=>cn.q.lv.zero D λο J=>nomatch J;let ge:∀{c},a2 c=0->c≠a7:=λh e=>by rw[e,l3] at h;cases h
     let gd:∀{c},a2 c=0->c≠r.sh:=λh e=>by rw[e,bl] at h;cases h
     let cj:=c2 ci;show(_,VC.of (e9 cj (ge (db cj)) (gd (db cj))),_,rfl,xs,(sp.2:Int),rfl,g0,sp.2,GM (by have:=(aA.mp e5).1;show this),?_);rw[bt];let cm:∀{c o},Z c>o->a2 c=0->upd (if sp.1=true then AE Z a7 r bi tw else Z) aj (.lst (xs.set sp.2 .non)) c>o:=λD f3=>ee.kw _ _ D (by rw[f3];decide);let bh:∀{c us},Z c>(.tup us)->upd (if sp.1=true then AE Z a7 r bi tw else Z) aj (.lst (xs.set sp.2 .non)) c>(.tup us):=λD=>cm D (db D);let eb:=b3.q.lv.none fj;let de:∀{c us},G c>(.tup us)->Z c>(.tup us):=λD=>c2 (a8 _ _ D);generalize upd (if sp.1=true then AE Z a7 r bi tw else Z) aj (.lst (xs.set sp.2 .non))=GZ at *;show(by rw[a3];show g4,by rw[a3];show pO dh,?_,⟨cm (ck U.ll.1 (by rw[eb];decide) gb) eb,Paired.mapP U.ll.2 λ_ _ ⟨a,e,q⟩=>(a,e,bh (de q))⟩,(b4,cm (ck cy (by rw[da];decide) (Ne.symm gc)) da,by rw[a3];show Paired.mapP cz λ_ _ ⟨c0,a,e,q⟩=>(c0,a,e,bh (de q))),(_,cm g5 bx,?_),ga.trans (ee.sub (by decide)))
     .rw[a3];intro q w fz;let(_,cx)||cx:=VL fz
      .rw[cx];show λJ=>U.nk _ _ bc (List.append_eq_nil_iff.mp J).1
      .show U.nk q w cx
     .rw[a3];change Paired _ _ ((EC p i).M++[(sp,W.2)]);show UG (Paired.mapP be λο ο q=>q.to λc us D=>bh (de D)) (b5,t,ae,rfl,bh bj,(t,rfl,bh cj),(ae,rfl,bh (c2 ch)))
    .rintro⟨b7,b8,b0,am,rfl,U⟩;rw[<-e4] at U;show(b7,b8,b0,am,rfl,ac,b6,U)
  rintro⟨b7,b8,b0,am,rfl,ac,b6,U⟩;rfl';let(ms,bz,be):=U.mm;let e0:=U.lp;let du:=U.ap;rw[U6] at e0 du be;show q _ a1 ms e0 du d5 bz be U.mv
theorem jK:∀(l:!Sh) (D:!(!Int)),D.Nodup->(∀b∈D,∃r∈l,r.b=b)->(∀r∈l,r.ks≠[])->D.length<=(l.flatMap Sh.ks).length
 |[],D,_,h,_=>by
  cases D with
  |nil=>show pA _
  |cons b D=>let(r,hr,_):=h b (wA ..);cases hr
 |r::l,D,nd,h,ne=>by
  let ih:=jK l (D.erase r.b) (nd.erase _) (λb hb=>by
   let(h1,h2):=(nd.mem_erase_iff).mp hb;let(q,hq,e):=h b h2;let rfl||hq:=xA.mp hq
   .show absurd e.symm h1
   .show(q,hq,e)) (λq hq=>ne q (kA _ hq))
  let h1:0 < r.ks.length:=List.length_pos_iff.mpr (ne r (wA ..));rw[GA,jA];rw[List.length_erase] at ih
  split at ih<;>omega
theorem LY {p:Sh->Bool}:∀l:!Sh,((l.filter p).flatMap Sh.ks).length+((l.filter λr=> not (p r)).flatMap Sh.ks).length=(l.flatMap Sh.ks).length
 |[]=>rfl
 |r::l=>by
  let ih:=LY (p:=p) l;cases c:p r with
  |true=>
   rw[nB c,fB (p:=λr=> not (p r)) (by simp[c]),GA,GA,jA,jA];omega
  |false=>
   rw[fB (by simp[c]),nB (p:=λr=> not (p r)) (by simp[c]),GA,GA,jA,jA];omega
structure Mf (N M n t:Nat) (s:St):Prop where
 fr:s.fr.length=N
 sr:s.sr.length=M
 nd:(uE s).Nodup
 ky:∀k∈uE s,∃(w:Str) (x:Int) (y:Nat),k=[.inr w,.inl x,.inl (y:Int)]/\(100<=x\/y < t)
 sz:∀r∈GC s,r.b.length=n
 ne:∀r∈GC s,r.ks≠[]
 cn:∃D:!(!Int),D.Nodup/\(∀b∈D,∃r∈GC s,r.b=b)/\(uE s).length<=D.length+t
section
variable {N M n t:Nat} {s s':St}
theorem Mf.few (h:Mf N M n t s) (a1:t<=61) (b:!Int):(((GC s).filter λr=>decide (r.b=b)).flatMap Sh.ks).length < 64:=by
 let(F,q,O,U):=h.cn;let a0:=LY (p:=λr=>decide (r.b=b)) (GC s);let D:=jK ((GC s).filter λr=> not (decide (r.b=b))) (F.erase b) (q.erase _) (λJ V=>by
  let(W,Z):=(q.mem_erase_iff).mp V;let(r,j,e):=O J Z;show(r,yB.mpr ⟨j,by rw[zA (by rw[e];show W)];rfl⟩,e)) (λr j=>h.ne r (yB.mp j).1)
 unfold uE at U;rw[List.length_erase] at D
 split at D<;>omega
theorem Mf.tri (h:Mf N M n t s):∀k∈uE s,SE k:=λk j=>by
 let(w,x,y,e,_):=h.ky k j;show(w,x,_,e)
theorem Mf.fi (h:Mf N M n t s) (j:t<=61):Fi s 0 ([],s,[]):=(rfl,rfl,(λο q=>nomatch q),h.nd,h.tri,h.few j,pA _,pA _)
theorem Mf.one (h:Mf N M n t s) (O:t<=61) {r:Sh} (q:r∈GC s):jH r:=by
 let J:r∈(GC s).filter λy=>decide (y.b=r.b):=yB.mpr ⟨q,BA rfl⟩;let D:=h.few O r.b;show(?_,?_,λk F=>h.tri k (eC.mpr (r,q,F)))
 .let(U,V,j):=fC J;rw[j,aC,GA,jA,jA] at D;omega
 .let(U,V,j):=fC q;have:=h.nd;unfold uE at this;rw[j,aC,GA] at this;show (KA.mp (KA.mp this).2.1).1
theorem Mf.up (h:Mf N M n t s):Mf N M n (t+1) s:=by
 let(j,q,D,J):=h.cn;show(h.fr,h.sr,h.nd,λk F=>by let(w,x,y,e,c):=h.ky k F;show(w,x,y,e,c.imp id λO=>⋯),h.sz,h.ne,j,q,D,⋯)
theorem Mf.pm (h:Mf N M n t s) (e:(GC s').Perm (GC s)) (U:s'.fr.length=s.fr.length) (V:s'.sr.length=s.sr.length):Mf N M n t s':=by
 let q:(uE s').Perm (uE s):=e.flatMap_right Sh.ks;let(D,F,J,O):=h.cn;show(U.trans h.fr,V.trans h.sr,q.nodup_iff.mpr h.nd,λk Z=>h.ky k (q.mem_iff.mp Z),λr j=>h.sz r (e.mem_iff.mp j),λr j=>h.ne r (e.mem_iff.mp j),D,F,λb W=>by let(r,j,x):=J b W;show(r,e.mem_iff.mpr j,x),by rw[q.length_eq];show O)
theorem Mf.new (h:Mf N M n t s) {w:Str} {x:Int} (J:x < 100):([.inr w,.inl x,.inl ((t:Nat):Int)]:!Key)∉uE s:=λD=>by
 let(O,F,y,e,c):=h.ky _ D;injection e with _ e;injection e with j e;injection e with q _;let j:x=F:=Sum.inl.inj j;let q:(t:Int)=y:=Sum.inl.inj q;omega
theorem Mf.add (h:Mf N M n t s) {r:Sh} {k:!Key} (e:(GC s').Perm (r::GC s)) (a1:s'.fr.length=s.fr.length) (a2:s'.sr.length=s.sr.length) (D:r.b.length=n) (Z:r.ks=[k]) (a4:k∉uE s) {u:Nat} (a7:t<=u) (a3:∃(w:Str) (x:Int) (y:Nat),k=[.inr w,.inl x,.inl (y:Int)]/\(100<=x\/y < u)) (hd:u=t+1\/∀q∈GC s,q.b≠r.b):Mf N M n u s':=by
 let J:(uE s').Perm (k::uE s):=by
  have:=e.flatMap_right Sh.ks;rw[GA,Z] at this;show this
 let(V,W,O,a6):=h.cn;let F:∀q,q∈GC s'↔q=r\/q∈GC s:=λq=>by rw[e.mem_iff,xA]
 show(a1.trans h.fr,a2.trans h.sr,J.nodup_iff.mpr (JA.mpr ⟨a4,h.nd⟩),λa5 U=>?_,λq j=>?_,λq j=>?_,?_)
 .let rfl||U:=xA.mp (J.mem_iff.mp U)
  .show a3
  .let(w,x,y,e,c):=h.ky a5 U;show(w,x,y,e,c.imp id λa0=>⋯)
 .let rfl||j:=(F q).mp j
  .show D
  .show h.sz q j
 .let rfl||j:=(F q).mp j
  .rw[Z];simp
  .show h.ne q j
 .let rfl||hd:=hd
  .show(V,W,λb D=>by let(q,j,x):=O b D;show(q,(F q).mpr (.inr j),x),by rw[J.length_eq,NA];omega)
  .show(r.b::V,JA.mpr ⟨λa0=>?_,W⟩,λb D=>?_,by rw[J.length_eq,NA,NA];omega)
   .let(q,j,x):=O _ a0;show hd q j x
   .let rfl||D:=xA.mp D
    .show(r,(F r).mpr (.inl rfl),rfl)
    .let(q,j,x):=O b D;show(q,(F q).mpr (.inr j),x)
theorem Mf.swap (h:Mf N M n t s) {l:!Sh} {r r':Sh} (e:(GC s).Perm (r::l)) (a1:(GC s').Perm (r'::l)) (a3:s'.fr.length=s.fr.length) (a4:s'.sr.length=s.sr.length) (F:r'.b.length=n) (ad:r'.ks≠[]) (ac:r'.ks.Nodup) (a9:∀k∈r'.ks,k∈r.ks\/k∉uE s) (a8:∀k∈r'.ks,k∉uE s->∃(w:Str) (x:Int) (y:Nat),k=[.inr w,.inl x,.inl (y:Int)]/\(100<=x\/y < t+1)) (hd:r'.ks.length<=r.ks.length\/(r'.b=r.b/\r'.ks.length<=r.ks.length+1)):Mf N M n (t+1) s':=by
 let O:(uE s).Perm (r.ks++l.flatMap Sh.ks):=by
  have:=e.flatMap_right Sh.ks;rw[GA] at this;show this
 let W:(uE s').Perm (r'.ks++l.flatMap Sh.ks):=by
  have:=a1.flatMap_right Sh.ks;rw[GA] at this;show this
 let(ak,ae,af):=KA.mp (O.nodup_iff.mp h.nd);let(Z,V,a0,ai):=h.cn;let U:∀q,q∈GC s↔q=r\/q∈l:=λq=>by rw[e.mem_iff,xA]
 let J:∀q,q∈GC s'↔q=r'\/q∈l:=λq=>by rw[a1.mem_iff,xA]
 let aa:=O.length_eq;let ab:=W.length_eq;rw[jA] at aa ab;show(a3.trans h.fr,a4.trans h.sr,W.nodup_iff.mpr (KA.mpr (ac,ae,λa a5 b a2 D=>?_)),λk a7=>?_,λq j=>?_,λq j=>?_,?_)
 .subst D;let D||D:=a9 a a5
  .show af a D a a2 rfl
  .show D (O.mem_iff.mpr (DA _ a2))
 .by_cases c:k∈uE s
  .let(w,x,y,e,c):=h.ky k c;show(w,x,y,e,c.imp id λD=>⋯)
  .let D||D:=UA.mp (W.mem_iff.mp a7)
   .show a8 k D c
   .show absurd (O.mem_iff.mpr (DA _ D)) c
 .let rfl||j:=(J q).mp j
  .show F
  .show h.sz q ((U q).mpr (.inr j))
 .let rfl||j:=(J q).mp j
  .show ad
  .show h.ne q ((U q).mpr (.inr j))
 .let hd||(a6,aj):=hd
  .show(Z.erase r.b,V.erase _,λb F=>?_,?_)
   .let(ag,ah):=(V.mem_erase_iff).mp F;let(q,j,x):=a0 b ah;let rfl||j:=(U q).mp j
    .show absurd x.symm ag
    .show(q,(J q).mpr (.inr j),x)
   .rw[List.length_erase]
    split<;>omega
  .show(Z,V,λb F=>?_,⋯);let(q,j,x):=a0 b F;let rfl||j:=(U q).mp j
   .show(r',(J r').mpr (.inl rfl),a6.trans x)
   .show(q,(J q).mpr (.inr j),x)
theorem Mf.off (h:Mf N M n t s) {r:Sh} (e:(GC s).Perm (r::GC s')) (V:s'.fr.length=s.fr.length) (W:s'.sr.length=s.sr.length):Mf N M n t s':=by
 let F:(uE s).Perm (r.ks++uE s'):=by
  have:=e.flatMap_right Sh.ks;rw[GA] at this;show this
 let(a7,a2,a8):=KA.mp (F.nodup_iff.mp h.nd);let(O,J,U,a5):=h.cn;let D:∀q,q∈GC s↔q=r\/q∈GC s':=λq=>by rw[e.mem_iff,xA]
 let a1:=F.length_eq;rw[jA] at a1;let a6:=List.length_pos_iff.mpr (h.ne r ((D r).mpr (.inl rfl)));show(V.trans h.fr,W.trans h.sr,a2,λk a0=>h.ky k (F.mem_iff.mpr (DA _ a0)),λq j=>h.sz q ((D q).mpr (.inr j)),λq j=>h.ne q ((D q).mpr (.inr j)),O.erase r.b,J.erase _,λb Z=>?_,?_)
 .let(a3,a4):=(J.mem_erase_iff).mp Z;let(q,j,x):=U b a4;let rfl||j:=(D q).mp j
  .show absurd x.symm a3
  .show(q,j,x)
 .rw[List.length_erase]
  split<;>omega
theorem Mf.fold (h:Mf N M n t s) (J:t<=61):Mf N M n t (dE s).s:=by
 let F:=NP (h.fi J) (spA s).length (pA _);let j:=OP (h.fi J) (spA s).length (pA _);let(O,U,V,W):=h.cn;show(F.fr.trans h.fr,F.sr.trans h.sr,j.ky.nodup_iff.mpr h.nd,λk a0=>h.ky k (j.ky.mem_iff.mp a0),λr D=>?_,j.ne h.ne,O,U,λb Z=>?_,by change (uE (kD s (spA s).length).s).length<=_;rw[j.ky.length_eq];show W)
 .let(a2,a3,a4,_):=j.bx r D;rw[a4];show h.sz a2 a3
 .let(q,a1,x):=V b Z;let(r,D,y):=j.bs q a1;show(r,D,y.trans x)
end
set_option genInjectivity false in
structure OD where
 z:Ss
 s:St
 L:Lb
 pl:Addr
 fl:Addr
 sl:Addr
 p:St
def QC (X:OD) (c:Addr):Prop:=c=X.z.p\/c∈X.z.four\/(∃r∈GC X.s,c=r.hd\/c=r.bx)\/X.L c≠0
def Ow (X:OD) (c:Addr):Prop:=QC X c\/c=X.z.fp\/c=X.z.sq\/∃r∈GC X.s,c=r.sh
structure Go (X X':OD) (H H':Hp):Prop where
 keep:∀c o,H c>o->¬QC X c->H' c>o
 hd:∀c,QC X' c->QC X c\/H c=none
 ow:∀c,Ow X' c->Ow X c\/H c=none
 dm:∀c,H' c=none->H c=none
theorem Go.of {X:OD} {H j:Hp} (s:pC H j):Go X X H j:=(λο ο h ο=>s _ _ h,λο h=>.inl h,λο h=>.inl h,λο h=>xD s h)
theorem Go.trans {X Y Z : OD} {H G J : Hp} (a : Go X Y H G) (b : Go Y Z G J) : Go X Z H J :=
  (λc o h n => b.keep c o (a.keep c o h n) λz => (a.hd c z).elim n λe => (by rw [h] at e; cases e),
   λc h => (b.hd c h).elim (a.hd c) λe => .inr (a.dm c e),
   λc h => (b.ow c h).elim (a.ow c) λe => .inr (a.dm c e),
   λc h => a.dm c (b.dm c h))
structure dD (A:cE) (H:Hp) (n t:Nat) (X:OD):Prop where
 cx:Cx A H X.z X.s X.L X.pl X.fl X.sl X.p
 ap:Ap X.p
 me:∃N M,Mf N M n t X.s
 l4:∀c,X.L c<=4
theorem dD.same {A:cE} {H j:Hp} {n t:Nat} {X:OD} (h:dD A H n t X) (s:pC H j):dD A j n t X:=(h.cx.same s,h.ap,h.me,h.l4)
theorem dD.up {A:cE} {H:Hp} {n t:Nat} {X:OD} (h:dD A H n t X):dD A H n (t+1) X:=(h.cx,h.ap,h.me.elim λN h=>h.elim λM h=>(N,M,h.up),h.l4)
theorem MY {S:Addr} {H:Hp} {vs:!V} {rows:!(Option Sh)} (h:RD S H vs rows) {r:Sh} (D:some r∈rows):bD S H (.ref r.sh) (some r):=by
 let(i,q):=IA.mp D;let(v,F,j):=nG h q;let(e,_):=id j;rw[e] at j;show j
theorem xC.at {C P S:Addr} {H:Hp} {F:Ss} {s:St} (h:xC C P S H F s) {r:Sh} (j:r∈GC s):bD S H (.ref r.sh) (some r):=by
 let(_,_,_,_,q,_):=h.fr;let(_,_,_,_,D,_):=h.sl;let j||j:=gF.mp j
 .show MY q j
 .show MY D j
theorem Ow.ex {A:cE} {H:Hp} {n t:Nat} {X:OD} (h:dD A H n t X) {c:Addr} (q:Ow X c):H c≠none:=λe=>by
 let(a0,U):=h.cx.ss.me;let(_,_,J,_):=h.cx.ss.fr;let(_,_,O,_):=h.cx.ss.sl;let F:∀r∈GC X.s,H r.sh≠none/\H r.hd≠none/\H r.bx≠none:=λr j=>by
  let(_,(_,V),W,Z):=h.cx.ss.at j;rw[V,W,Z];show(nofun,nofun,nofun)
 rcases q with (rfl|q|⟨r,j,rfl|rfl⟩|q)|rfl|rfl|⟨r,j,rfl⟩
 .rw[U] at e;cases e
 .let(us,g):=h.cx.ss.fours c q;rw[g] at e;cases e
 .show (F r j).2.1 e
 .show (F r j).2.2 e
 .let(us,g):=h.cx.lp.q.lv c q;rw[g] at e;cases e
 .rw[J] at e;cases e
 .rw[O] at e;cases e
 .show (F r j).1 e
theorem QC.nt {A:cE} {H:Hp} {n t:Nat} {X:OD} (h:dD A H n t X) {c:Addr} {us:!V} (j:H c>(.tup us)):¬QC X c:=by
 let(O,D):=h.cx.ss.me;rintro (rfl|q|⟨r,hr,rfl|rfl⟩|q)
 .rw[D] at j;cases j
 .let(us,g):=h.cx.ss.fours c q;rw[g] at j;cases j
 .let(_,_,_,J):=h.cx.ss.at hr;rw[J] at j;cases j
 .let(_,_,F,_):=h.cx.ss.at hr;rw[F] at j;cases j
 .let(us,g):=h.cx.lp.q.lv c q;rw[g] at j;cases j
theorem QC.nz {A:cE} {H:Hp} {n t:Nat} {X:OD} (h:dD A H n t X) {c:Addr} {p:Obj} {D:HO} (j:H c>(.frz p D)):¬QC X c:=by
 let(U,F):=h.cx.ss.me;rintro (rfl|q|⟨r,hr,rfl|rfl⟩|q)
 .rw[F] at j;cases j
 .let(us,g):=h.cx.ss.fours c q;rw[g] at j;cases j
 .let(_,_,_,O):=h.cx.ss.at hr;rw[O] at j;cases j
 .let(_,_,J,_):=h.cx.ss.at hr;rw[J] at j;cases j
 .let(us,g):=h.cx.lp.q.lv c q;rw[g] at j;cases j
theorem dD.stay {A:cE} {H D:Hp} {n t:Nat} {X:OD} (h:dD A H n t X) (k:∀c o,H c>o->(Ow X c\/TF o)->D c>o) (dm:Dm H D):dD A D n t X:=by
 let j:=h.cx;let a0:Zv [] X.L X.L H D:=(λο=>.inl rfl,λc o U w=>k c o U (w.elim .inr λw=>.inl (.inl (.inr (.inr (.inr w.1))))),dm)
 let Z:∀{v:V} {r:Option Sh},(∀q,r>q->q∈GC X.s)->bD A.Ac H v r->bD A.Ac D v r:=λ{v r} J F=>by
  cases r with
  |none=>show F
  |some r=>
   let(e,(a1,ai),aj,ak):=F;let W:=J r rfl;show(e,⟨a1,k _ _ ai (.inl (.inr (.inr (.inr (r,W,rfl)))))⟩,k _ _ aj (.inl (.inl (.inr (.inr (.inl (r,W,.inr rfl)))))),k _ _ ak (.inl (.inl (.inr (.inr (.inl (r,W,.inl rfl)))))))
 let O:∀{c o},H c>o->c∈X.z.four->D c>o:=λU h=>k _ _ U (.inl (.inl (.inr (.inl h))));let(a2,af):=j.ss.me;let(a3,ag,a5,a6,a7,a8,a9):=id j.ss.fr;let(a4,ah,aa,ab,ac,ad,ae):=id j.ss.sl;show(((⟨a2,k _ _ af (.inl (.inl (.inl rfl)))⟩,(a3,ag,k _ _ a5 (.inl (.inr (.inl rfl))),O a6 (SG (f:=true)),lT a7 (λv r J F=>Z (λq e=>gF.mpr (.inl (by rw[<-e];show J))) F),O a8 (RH (f:=true)),a9),(a4,ah,k _ _ aa (.inl (.inr (.inr (.inl rfl)))),O ab (SG (f:=false)),lT ac (λv r J F=>Z (λq e=>gF.mpr (.inr (by rw[<-e];show J))) F),O ad (RH (f:=false)),ae),j.ss.n4,j.ss.bx,j.ss.len,j.ss.hh),j.ap,j.tw,j.bx,j.l0,j.lb,j.lp.zv a0 (j.lp.q.lv.zv a0),j.si,j.ok),h.ap,h.me,h.l4)
structure MG (A:cE) (H:Hp) (n t u:Nat) (X Y:OD):Prop where
 x:dD A H n t X
 y:dD A H n u Y
 d:∀c,QC X c->¬Ow Y c
 d':∀c,QC Y c->¬Ow X c
theorem MG.swap {A:cE} {H:Hp} {n t u:Nat} {X Y:OD} (h:MG A H n t u X Y):MG A H n u t Y X:=(h.y,h.x,h.d',h.d)
theorem MG.same {A:cE} {H j:Hp} {n t u:Nat} {X q:OD} (h:MG A H n t u X q) (s:pC H j):MG A j n t u X q:=(h.x.same s,h.y.same s,h.d,h.d')
theorem MG.go {A:cE} {H q:Hp} {n t t' u:Nat} {X D F:OD} (h:MG A H n t u X F) (O:dD A q n t' D) (g:Go X D H q):MG A q n t' u D F:=by
 let U:∀c o,H c>o->(Ow F c\/TF o)->q c>o:=λc o j w=>g.keep c o j λhd=>by
  let w||(us,rfl||(p,rfl)):=w
  .show h.d c hd w
  .show QC.nt h.x j hd
  .show QC.nz h.x j hd
 show(O,h.y.stay U g.dm,λc j w=>(g.hd c j).elim (λJ=>h.d c J w) (Ow.ex h.y w),λc j w=>(g.ow c w).elim (λJ=>h.d' c j J) (Ow.ex h.y (.inl j)))
def VD (L:Lb):Lb:=λc=>if L c<=4 then L c else 0
theorem wI {j:Lb} {c:Addr} {k:Nat} (h:j c=k) (q:k<=4):VD j c=k:=by unfold VD;rw[iA ⋯,h]
theorem wT {L:Lb} {c:Addr} (h:VD L c≠0):L c≠0:=λe=>h (wI e (by decide))
theorem NY {L:Lb} {c:Addr}:VD L c<=4:=by unfold VD;split<;>omega
theorem JM {L:Lb} {c:Addr} (h:L c=0):VD L c=0:=wI h (by decide)
theorem RF.cut {H:Hp} {L:Lb} {v:V}:∀{r:Option Sh} {o:Option Nat},RF H L v r o->RF H (VD L) v r o
 |none,_,h=>h
 |some _,_,⟨e,x1,x2,x3,y1,y2,y3⟩=>(e,x1,x2,x3,wI y1 (by decide),wI y2 (by decide),wI y3 (by decide))
theorem RS.cut {H:Hp} {L:Lb} {B:Nat->!Int} {v:V}:∀{r:Option Sh} {o:Option Nat},RS H L B v r o->RS H (VD L) B v r o
 |some r,_,h=>RF.cut (r:=some r) (o:=none) (show RF H L v (some r) none from h)
 |none,none,h=>h
 |none,some _,⟨a,ba,ha,e,x1,x2,x3,y1,y2,y3⟩=>(a,ba,ha,e,x1,x2,x3,wI y1 (by decide),wI y2 (by decide),wI y3 (by decide))
theorem Lp.cut {H:Hp} {q:Lb} {pl D F:Addr} {p:St} (h:Lp H q pl D F p):Lp H (VD q) pl D F p:=by
 let(us,V,W,Z):=h.q.hf;let(a3,J,O,U):=h.q.hs;let(a1,a2,l3):=h.q.l1;show⟨(h.q.hp,(us,V,W,λi r o a b=>(Z i r o a b).elim λv j=>(v,j.1,j.2.cut)),(a3,J,O,λi r o a b=>(U i r o a b).elim λv j=>(v,j.1,j.2.cut)),(wI a1 (by decide),wI a2 (by decide),wI l3 (by decide)),h.q.ne,h.q.ln,λc a0=>h.q.lv c (wT a0)),h.tw⟩
def Hq (z:Ss) (s:St) (c:Addr):Prop:=c=z.p\/c∈z.four\/∃r∈GC s,c=r.hd\/c=r.bx
structure Md (A:cE) (X:OD) (s':St) (H H1:Hp):Prop where
 ss:xC A.Aa A.Ad A.Ac H1 X.z s'
 ap:Ap s'
 tw:Tw s'
 bx:Bx s'
 lb:∀r∈GC s',X.L r.bx=0
 lp:Lp H1 X.L X.pl X.fl X.sl X.p
 kp:∀c o,H c>o->¬Hq X.z X.s c->H1 c>o
 ad:∀r∈GC s',(∃r0∈GC X.s,r.hd=r0.hd/\r.bx=r0.bx/\r.sh=r0.sh)\/(H r.hd=none/\H r.bx=none/\H r.sh=none)
 dm:∀c,H1 c=none->H c=none
theorem dD.lq {A:cE} {H:Hp} {n t:Nat} {X:OD} (h:dD A H n t X) {c:Addr} (j:X.L c≠0):¬Hq X.z X.s c:=by
 let(J,D):=h.cx.ss.me;let(us,g):=h.cx.lp.q.lv c j;rintro (rfl|q|⟨r,hr,rfl|rfl⟩)
 .rw[D] at g;cases g
 .show j (h.cx.l0 _ q)
 .let(_,_,_,F):=h.cx.ss.at hr;rw[F] at g;cases g
 .show j (h.cx.lb r (gF.mp hr))
theorem dD.md {A:cE} {H j:Hp} {n t:Nat} {X:OD} {s':St} (h:dD A H n t X) (a2:xC A.Aa A.Ad A.Ac j X.z s') (W:Ap s') (tw:Tw s') (Z:Bx s') (U:∀c o,H c>o->¬Hq X.z X.s c->j c>o) (J:∀r∈GC s',(∃D∈GC X.s,r.hd=D.hd/\r.bx=D.bx/\r.sh=D.sh)\/(H r.hd=none/\H r.bx=none/\H r.sh=none)) (dm:∀c,j c=none->H c=none):Md A X s' H j:=by
 let V:Zv [] X.L X.L H j:=(λο=>.inl rfl,λc o F w=>U c o F (w.elim (λ⟨us,e⟩ O=>by
  let rfl||(p,rfl):=e
  .show QC.nt h F (O.imp id λq=>q.imp id .inl)
  .show QC.nz h F (O.imp id λq=>q.imp id .inl)) λw=>h.lq w.1),dm)
 show(a2,W,tw,Z,λr a1=>?_,h.cx.lp.zv V (h.cx.lp.q.lv.zv V),U,J,dm);let(D,a0,_,e,_)||(_,e,_):=J r a1
 .rw[e];show h.cx.lb D (gF.mp a0)
 .show h.cx.lp.q.lv.none e
theorem Md.same {A:cE} {X:OD} {s':St} {H j q:Hp} (m:Md A X s' H j) (s:pC j q):Md A X s' H q:=(m.ss.same s,m.ap,m.tw,m.bx,m.lb,m.lp.same s,λc o h n=>s _ _ (m.kp c o h n),m.ad,λc h=>m.dm c (xD s h))
theorem Md.fin {A:cE} {X:OD} {s' U:St} {H Z V:Hp} {N:!Nat} {J:Lb} {n t u a6 a5:Nat} (h:dD A H n t X) (m:Md A X s' H Z) (lp:Lp V J X.pl X.fl X.sl U) (mv:Mv N X.L J Z V) (O:0∉N) (ab:QD s' U) (a8:Ap U) (W:Mf a6 a5 n u s') (aa:u<=61) (a9:n<=64):dD A V n u {X with s:=s',L:=VD J,p:=U}/\Go X {X with s:=s',L:=VD J,p:=U} H V:=by
 let cs:Cs A Z X.z s' X.L:=(m.ss,h.cx.l0,λr D=>m.lb r (gF.mpr D))
 let a0:=cs.mv mv m.lp.q.lv O;let lx:∀c,J c≠0->X.L c≠0\/H c=none:=λc j=>(mv.lx c).elim (λe=>.inl (by rw[<-e];show j)) λe=>.inr (m.dm c e);let hd:∀c,QC {X with s:=s',L:=VD J,p:=U} c->QC X c\/H c=none:=λc j=>by
  let j||j||(r,D,j)||j:=j
  .show .inl (.inl j)
  .show .inl (.inr (.inl j))
  .let(a4,O,a1,a2,_)||(a1,a2,_):=m.ad r D
   .show .inl (.inr (.inr (.inl (a4,O,j.imp (λF=>F.trans a1) λF=>F.trans a2))))
   .let rfl||rfl:=j
    .show .inr a1
    .show .inr a2
  .show (lx c (wT j)).imp (λF=>.inr (.inr (.inr F))) id
 show(((a0.ss,m.ap,m.tw,m.bx,λc j=>JM (a0.l0 c j),λr D=>JM (a0.lb r D),lp.cut,ab,λr D=>(W.one aa (gF.mpr D),W.ne r (gF.mpr D),by rw[W.sz r (gF.mpr D)];show a9)),a8,(a6,a5,W),λc=>NY),λc o j a7=>mv.kw c o (m.kp c o j λF=>a7 (F.imp id λq=>q.imp id .inl)) ?_,hd,λc j=>?_,λc j=>m.dm c (mv.dm c j))
 .have:X.L c=0:=LA λe=>a7 (.inr (.inr (.inr e)));rw[this];show O
 .let j||j||j||(r,D,rfl):=j
  .show (hd c j).imp .inl id
  .show .inl (.inr (.inl j))
  .show .inl (.inr (.inr (.inl j)))
  .let(a4,O,_,_,a3)||(_,_,a3):=m.ad r D
   .show .inl (.inr (.inr (.inr (a4,O,a3))))
   .show .inr a3
def OY (C P S O:Addr):Sp:=λvs H Q ο=>QS C P S O vs H Q λο ο H'=>Q (.str "NoRoom") H'
theorem NO (T:LD K mg A):oE P w K mg base "_law_asked" 6 ["_law_sheets","_law_sheet_here","_law_holder","_law_marks"] [] (OY A.Aa A.Ad A.Ac A.Am):=by
 show T.Fb.have xS (λvs H Q E j=>?_) ?_
 .let(j,s,l,h,m,bs,k,ms,rfl,_):=j;rfl
 .intro f a7 a6 a8 s H vs Q E a4 j;let(j,s,l,h,m,bs,k,ms,rfl,D,V,W,Z,a0,hh,a1,a2,a3,q):=j;let(O,U):=D.me;show(_,(OC (O2 T.Fx (λο ο ο a9 a5=>(FC (mD (i:=4) xS.nd rfl (Or.inl rfl) (pF (lC 0) T.Ab (dY T) (-a4) a5 (nC (lC 1) (nC (lC 2) (nC (lC 3) wC))))))) KD (λο=>(FC (mD (i:=4) xS.nd rfl (Or.inl rfl) wE))))
   (FC (sD (lC 4)))),?_)
  rfl';show(O,_,U,DE ∅,ES j s l h m bs k ms (rfl,D,V,W,Z,a0,hh,a1,a2,a3,?_));by_cases c:fD s < room s
  .rw[iA c] at q ⊢;show q
  .rw[gA c] at q ⊢;show λJ s=>(A.Am,rfl,T.Cp,q J s)
def sp_num:Sp:=λvs H Q ο=>∃(d:Bool) (c k:Int),vs=[.bl d,.int c,.int k]/\0<=k/\k<=64/\∀x H',pC H H'->Q (.int x) H'
theorem OO (T:LD K mg A):oE P w K mg base "_law_number" 1 ["_law_digits","_law_cell_here","_law_k"] [] sp_num:=by
 show T.E2.have IX (λvs H Q E D=>?_) ?_
 .let(J,c,k,rfl,_):=D;rfl
 .intro f U O a0 s H vs Q E Z D;let(J,c,k,rfl,j,F,q):=D;show(_,(OC (JD (gG (lC 0)) (FC (sD (KC FE (lC 1) (KC yQ yC yC)))) KD)
   (OC (mD (i:=3) IX.nd rfl (Or.inl rfl) (KC FE (KC nF (KC nF (KC VH (lC 1) yC) (KC VH (KC VH (lC 2) (lC 2)) yC)) (lC 2)) yC))
   (FC (sD (KC nF (KC VH (lC 3) yC) (KC FE (KC nF (KC nF (KC VH (lC 3) yC) (KC VH (lC 1) yC)) (KC VH (KC VH (lC 2) (lC 2)) (lC 2))) yC)))))),?_)
  rfl';let V:k * k<=64 * 64:=Int.mul_le_mul F F j (by decide);let W:0<=k * k:=Int.mul_nonneg j j;show CF (λο=>q _ _ vD) (λο=>(.inl ⟨⋯,⋯⟩,.inl ⟨⋯,⋯⟩,.inl ⟨⋯,⋯⟩,q _ _ vD))
def sp_sht:Sp:=λvs H Q ο=>∃(r:Int) (n:Nat),vs=[.int r,.int (n:Int)]/\n<=64/\∀(H':Hp) (l:Addr) (bs:!Int),bs.length=n->pC H H'->H l=none->H' l>(.lst (bs.map V.int))->Q (.ref l) H'
theorem QO (T:LD K mg A):oE P w K mg base "_law_sheet" 1 ["_law_rest","_law_size_here"] [] sp_sht:=by
 show T.Fc.have i5 (λvs H Q E a1=>?_) ?_
 .let(r,n,rfl,_):=a1;rfl
 .intro f a3 a2 a8 s H vs Q E a5 a1;let(r,n,rfl,a4,q):=a1;show(_,(OC (JD (CD bF (KC FE (lC 0) yC) yC (rC _)) (FC (sD (FH rfl (iG rfl T.Aq (nC (lC 1) wC)) (x:="_law_j") (fs:=["_law_rest"]) (ix:=[0]) rfl rfl (λο ο ο ο ο ο=>(jE (i:=0) (show (["_law_j","_law_rest"]:!Str).Nodup by decide+kernel) rfl (Or.inl rfl))) (λο ο ο ο ο ο=>FG) (λο ο ο ο ο ο=>(KC FE (KC OV (KC pG (lC 1) yC) (KC FE (lC 0) yC)) yC))))) KD)
   (FC (sD (FH rfl (iG rfl T.Aq (nC (lC 1) wC)) (x:="_law_j") (fs:=["_law_rest"]) (ix:=[0]) rfl rfl (λο ο ο ο ο ο=>(jE (i:=0) (show (["_law_j","_law_rest"]:!Str).Nodup by decide+kernel) rfl (Or.inl rfl))) (λο ο ο ο ο ο=>FG) (λο ο ο ο ο ο=>(KC xQ (KC FE (KC pG (KC pG (lC 1) yC) (KC nF yC (KC VH (KC VH yC (lC 0)) (lC 0)))) (KC yQ yC yC)) (lC 0))))))),?_)
  rfl';let hz:=PySem.sizeLine_eq;show CF (λο=>(⋯,⋯,λU F=>?_)) (λο=>(⋯,⋯,λU F=>?_))
  .skip
   show PH (λi j O D=>∃(v:Option V) (bs:!Int),O=[v,some (.int r)]/\pC H D/\D U>(.lst j)/\j=bs.map V.int/\bs.length=i) (_,[],rfl,gE vD F,HC,rfl,rfl) (λi j O D a0=>?_) (λj O Z=>?_)
   .rintro⟨v,bs,rfl,s1,J,rfl,W⟩;let a0:i < n:=⋯;rfl';show(⋯,J,by rw[fA];omega,qF s1 F,bs++[_],by rw[MA];rfl,by rw[jA,W];rfl)
   .rintro⟨v,bs,rfl,s1,J,rfl,W⟩;show q Z U bs ⋯ s1 F J
  .skip
   show PH (λi j O D=>∃(v:Option V) (bs:!Int),O=[v,some (.int r)]/\pC H D/\D U>(.lst j)/\j=bs.map V.int/\bs.length=i) (_,[],rfl,gE vD F,HC,rfl,rfl) (λi j O D a0=>?_) (λj O Z=>?_)
   .rintro⟨v,bs,rfl,s1,J,rfl,W⟩;let a0:i < n:=⋯;rfl';let a6:997 * (0+(i:Int)) * (0+(i:Int))<=997 * 64 * 64:=Int.mul_le_mul ⋯ ⋯ ⋯ (by decide);let a7:0<=997 * (0+(i:Int)) * (0+(i:Int)):=Int.mul_nonneg ⋯ ⋯;show(.inr ⟨⋯,⋯⟩,⋯,⋯,J,by rw[fA];omega,qF s1 F,bs++[_],by rw[MA];rfl,by rw[jA,W];rfl)
   .rintro⟨v,bs,rfl,s1,J,rfl,W⟩;show q Z U bs ⋯ s1 F J
def sp_siz:Sp:=λvs H Q ο=>∃(c low most:Int),vs=[.int c,.int low,.int most]/\0<=low/\low<=1/\1<=most/\most<=6/\∀x H',low<=x->x<=64->pC H H'->Q (.int x) H'
theorem RO (T:LD K mg A):oE P w K mg base "_law_size" 1 ["_law_cell_here","_law_low","_law_most"] [] sp_siz:=by
 show T.Fw.have j5 (λvs H Q E F=>?_) ?_
 .let(c,D,j,rfl,_):=F;rfl
 .intro f O J a5 s H vs Q E a4 F;let(c,D,j,rfl,a0,a1,a2,a3,q):=F;show(_,(OC (JD (CD bF (KC FE (KC pG (lC 0) (lC 2)) yC) yC (rC _)) (FC (sD (KC nF (lC 1) (KC FE (KC pG (KC pG (lC 0) yC) (lC 2)) (KC xQ yC (lC 1)))))) KD)
   (FC (sD (KC nF (lC 1) (KC FE (lC 0) (lC 2)))))),?_)
  rfl';let U:=qB (c / 4 / j) (show 65 - D≠0 by omega);let V:=iB (c / 4 / j) (show 0 < 65 - D by omega);let W:=qB c (show j≠0 by omega);let Z:=iB c (show 0 < j by omega);show(⋯,⋯,CF (λο=>(⋯,⋯,⋯,q _ _ ⋯ ⋯ vD)) (λο=>⟨⋯,q _ _ ⋯ ⋯ vD⟩))
section
variable {A:cE} {H H1:Hp} {n t:Nat} {X:OD}
theorem dD.mdF (h:dD A H n t X) (a3:t<=61) (F:xC A.Aa A.Ad A.Ac H1 X.z (dE X.s).s) (J:Ap (dE X.s).s) (O:Tw (dE X.s).s) (a4:Kz X.z X.s H H1) (dm:∀c,H1 c=none->H c=none):Md A X (dE X.s).s H H1:=by
 let(N,M,a5):=h.me;let D:=OP (a5.fi a3) (spA X.s).length (pA _);show h.md F J O ?_ (λc o a1 q=>a4 c o a1 (λe=>q (.inl e)) (λe=>q (.inr (.inl e))) λe=>?_) (λr j=>?_) dm
 .let(l,a2):=D.ad;show (KA.mp (a2.nodup_iff.mpr h.cx.bx)).1
 .unfold dG at e;let(r,j,Z):=vG.mp e;show q (.inr (.inr (r,bJ.mpr j,.inl Z.symm)))
 .let(a6,a0,_,U,V,W):=D.bx r j;show .inl (a6,a0,U,W,V)
theorem dD.mdB (h:dD A H n t X) {ms:!Bool} {s1:St} {i j:Nat} {V:!Int} {out:Option (Nat×Sh)} {c:Sh} (J:NF X.s (some j) ms s1 i V out) (q:X.s.sr[j]?>(some c)) (F:xC A.Aa A.Ad A.Ac H1 X.z (wD s1 i j c out)) (O:Ap (wD s1 i j c out)) (tw:Tw (wD s1 i j c out)) (ks:Ks X.z H H1):Md A X (wD s1 i j c out) H H1:=by
 let pm:=J.alsB h.cx.tw q;show h.md F O tw ((pm.map Sh.bx).nodup_iff.mpr h.cx.bx) (λc o q D=>ks c o q (λe=>D (.inl e)) λe=>D (.inr (.inl e))) (λr U=>.inl (r,pm.mem_iff.mp U,rfl,rfl,rfl)) (ks.dm h.cx.ss F)
theorem dD.mdN (h:dD A H n t X) {ms:!Bool} {s1:St} {i:Nat} {a0:!Int} {out:Option (Nat×Sh)} {r:Sh} (U:NF X.s none ms s1 i a0 out) (D:H r.bx=none) (hd:H r.hd=none) (Z:H r.sh=none) (J:xC A.Aa A.Ad A.Ac H1 X.z {s1 with fr:=s1.fr.set i (some r)}) (V:Ap {s1 with fr:=s1.fr.set i (some r)}) (tw:Tw {s1 with fr:=s1.fr.set i (some r)}) (ks:Ks X.z H H1):Md A X {s1 with fr:=s1.fr.set i (some r)} H H1:=by
 let pm:=U.alsF (r:=r) h.cx.tw;show h.md J V tw ((pm.map Sh.bx).nodup_iff.mpr (JA.mpr ⟨λa1=>?_,h.cx.bx⟩)) (λc o W F=>ks c o W (λe=>F (.inl e)) λe=>F (.inr (.inl e))) (λq j=>?_) (ks.dm h.cx.ss J)
 .let(q,j,e):=jB.mp a1;let(_,_,O,_):=h.cx.ss.at j;rw[e,D] at O;cases O
 .let rfl||j:=xA.mp (pm.mem_iff.mp j)
  .show .inr (hd,D,Z)
  .show .inl (q,j,rfl,rfl,rfl)
theorem xT {s:St} {f:Bool} {j:Nat} {r r':Sh} (W:(s.rw f)[j]?>(some r)) (O:r'.hd=r.hd) (U:r'.bx=r.bx) (V:r'.sh=r.sh):∀q∈GC (s.put f j (some r')),∃F∈GC s,q.hd=F.hd/\q.bx=F.bx/\q.sh=F.sh:=λq D=>by
 let(J,Z):=dJ (r':=r') W;let rfl||D:=xA.mp (Z.mem_iff.mp D)
 .show(r,J.mem_iff.mpr (wA ..),O,U,V)
 .show(q,J.mem_iff.mpr (kA _ D),rfl,rfl,rfl)
theorem i7 {s:St} {f:Bool} {j:Nat} {r:Sh} (q:(s.rw f)[j]?>(some r)):(GC s).Perm (r::GC (UC s f j)):=by
 rw[sY];show (dJ (r':=r) q).1
theorem ZL {s:St} {f:Bool} {j:Nat} {r:Sh} (q:(s.rw f)[j]?>(some r)):r∈GC s:=(dJ (r':=r) q).1.mem_iff.mpr (wA ..)
end
abbrev Ans:=Option (Nat×!Int×Option (Nat×!(!Key)))
def xG (N:Addr->Prop) (H:Hp) (v:V):Ans->Prop
 |none=>v=.str "NoRoom"
 |some (i,(ps,o))=>∃t e v3,v=.ref t/\H t>(.tup [.int (i:Int),.ref e,v3])/\H e>(.lst (ps.map V.int))/\¬N e/\match o with
  |none=>v3=.non
  |some (j,ks)=>∃q l,v3=.ref q/\H q>(.tup [.int (j:Int),.ref l])/\vF H l ks/\¬N l
theorem xG.keep {N O:Addr->Prop} {H F:Hp} {v:V} {a:Ans} (h:xG N H v a) (J:∀c us,H c>(.tup us)->F c>(.tup us)) (D:∀c us,H c>(.lst us)->¬N c->F c>(.lst us)/\¬O c):xG O F v a:=by
 match a,h with
 |none,h=>show h
 |some (i,(ps,o)),⟨t,e,v3,h1,h2,h3,h4,h5⟩=>
  show(t,e,v3,h1,J _ _ h2,(D _ _ h3 h4).1,(D _ _ h3 h4).2,?_)
  match o,h5 with
  |none,h5=>show h5
  |some (j,ks),⟨q,l,e1,e2,⟨us,e3,e4⟩,e5⟩=>show(q,l,e1,J _ _ e2,(us,(D _ _ e3 e5).1,Paired.mapP e4 λ_ _ ⟨a,x,y⟩=>(a,x,J _ _ y)),(D _ _ e3 e5).2)
def KM:Ans->Dv
 |none=>.leaf (.str "NoRoom")
 |some (i,(ps,o))=>QP i ps o
def kK:Ans->Prop
 |none=>True
 |some (_,(ps,o))=>ps.length<=64/\∀j ks,o>(j,ks)->ks.length<=64/\∀k∈ks,k.length<=64
theorem PY (a:Ans):RC (KM a)<=4:=by
 match a with
 |none=>unfold KM;rw[RC];omega
 |some (i,(ps,o))=>show QL
theorem cQ {N:Addr->Prop} {H:Hp} {v:V} {a:Ans} (h:xG N H v a) (b:kK a):yD H (KM a) v:=by
 match a,h,b with
 |none,h,_=>unfold KM yD;show⟨h,rfl⟩
 |some (i,(ps,o)),⟨t,e,v3,h1,h2,h3,h4,h5⟩,⟨b1,b2⟩=>
  subst h1
  match o,h5,b2 with
  |none,h5,_=>cases h5;show u6 h2 (aT h3 b1)
  |some (j,ks),⟨q,l,e1,e2,e3,e5⟩,b2=>
   subst e1;show t6 h2 (aT h3 b1) e2 (pY e3 (b2 j ks rfl).1 (b2 j ks rfl).2)
theorem NF.anB {s s1:St} {c:Option Nat} {ms:!Bool} {i:Nat} {D:!Int} {out:Option (Nat×Sh)} (h:NF s c ms s1 i D out) (O:ms.length<=64) (ok:∀r,some r∈s.fr->jH r):kK (some (i,(D,oW out))):=by
 let(_,_,rfl,rfl)||(_,q,j,J,F,_,_,_,rfl):=h
 .show⟨LB _,λο ο e=>nomatch e⟩
 .show⟨by have:=K6 J;omega,λj ks e=>?_⟩;cases e;show (ok q (dA F)).ms
section
variable {A:cE} {H:Hp} {n t:Nat} {X:OD}
theorem jF.an {N:Addr->Prop} {G:Hp} {L:Lb} {v3:V} {out:Option (Nat×Sh)} (h:jF G L v3 out) (hn:∀c,L c=5->¬N c):match oW out with
  |none=>v3=.non
  |some (j,ks)=>∃q l,v3=.ref q/\G q>(.tup [.int (j:Int),.ref l])/\vF G l ks/\¬N l:=by
 cases out with
 |none=>show h
 |some x=>let(j,q):=x;let(o,l,e,h1,h2,h3):=h;show(o,l,e,h1,h2,hn l h3)
theorem ED.an {N:Addr->Prop} {H0 G:Hp} {F:!Addr} {v3:V} {out:Option (Nat×Sh)} (h:ED F G v3 out) (w:wG H0 G v3) (hn:∀c us,G c>(.lst us)->H0 c=none->¬N c):match oW out with
  |none=>v3=.non
  |some (j,ks)=>∃q l,v3=.ref q/\G q>(.tup [.int (j:Int),.ref l])/\vF G l ks/\¬N l:=by
 cases out with
 |none=>show h
 |some x=>
  let(j,q):=x;let(o,l,e,h1,h2,h3):=h;let(us,g1,g2):=id h2;show(o,l,e,h1,h2,hn l us g1 ?_);let w||(o',x,l',w1,w2,w3):=w
  .rw[w] at e;cases e
  .rw[w1] at e;cases e;rw[w2] at h1;simp only[vB,HO.tup.injEq,lB,V.ref.injEq,and_true] at h1;rw[<-h1.2];show w3
theorem ED.anB {N:Addr->Prop} {H0 G:Hp} {F:!Addr} {b:Addr} {v3:V} {out:Option (Nat×Sh)} (h:ED F G v3 out) (w:wG H0 G v3) (wb:UX b G v3) (hn:∀c us,G c>(.lst us)->H0 c=none->c≠b->¬N c):match oW out with
  |none=>v3=.non
  |some (j,ks)=>∃q l,v3=.ref q/\G q>(.tup [.int (j:Int),.ref l])/\vF G l ks/\¬N l:=by
 cases out with
 |none=>show h
 |some x=>
  let(j,q):=x;let(o,l,e,h1,h2,h3):=h;let(us,g1,g2):=id h2;let one:∀{l':Addr} {x':V} {o':Addr},v3=.ref o'->G o'>(.tup [x',.ref l'])->l=l':=λe1 e2=>by
   rw[e] at e1;cases e1;rw[h1] at e2;simp only[vB,HO.tup.injEq,lB,V.ref.injEq,and_true] at e2;show e2.2
  let nr:v3≠.non:=λz=>by rw[e] at z;cases z
  show(o,l,e,h1,h2,hn l us g1 ?_ ?_)
  .let w||(o',x,l',w1,w2,w3):=w
   .show absurd w nr
   .rw[one w1 w2];show w3
  .let w||(o',x,l',w1,w2,w3):=wb
   .show absurd w nr
   .rw[one w1 w2];show w3
theorem Mf.le {N M n t u:Nat} {s:St} (h:Mf N M n t s) (O:t<=u):Mf N M n u s:=by
 let(j,q,D,J):=h.cn;show(h.fr,h.sr,h.nd,λk F=>by let(w,x,y,e,c):=h.ky k F;show(w,x,y,e,c.imp id λU=>⋯),h.sz,h.ne,j,q,D,⋯)
theorem dD.le {u:Nat} (h:dD A H n t X) (j:t<=u):dD A H n u X:=(h.cx,h.ap,h.me.elim λN h=>h.elim λM h=>(N,M,h.le j),h.l4)
theorem dQ:∀{rows:!(Option Sh)},VE rows=(als rows).length
 |[]=>rfl
 |none::r=>by
  have:=dQ (rows:=r);unfold VE als at *;rw[fB (by decide),List.filterMap_cons_none rfl];show this
 |some x::r=>by
  have:=dQ (rows:=r);unfold VE als at *;rw[nB rfl,NA,this]
  rfl
theorem yT {s:St}:fD s=(GC s).length:=by
 unfold fD GC;rw[dQ,dQ,eG,jA]
theorem dD.fresh (h:dD A H n t X) (c4:n<=64) (u:Nat) (cb:u<=61) (av:t<=u) {l hh m':Addr} {bs:!Int} {k:!Key} {ms:!Bool} (ak:H l>(.lst (bs.map V.int))) (ae:¬QC X l) (bx:bs.length=n) (c0:H hh>(.tup (k.map kV))) (c2:H m'>(.lst (ms.map V.bl))) (c3:ms.length=X.s.fr.length) (c1:∃(w:Str) (x:Int) (y:Nat),k=[.inr w,.inl x,.inl (y:Int)]/\(100<=x\/y < u)) (c5:k∉uE X.s) (bz:u=t+1\/∀q∈GC X.s,q.b≠bs) {Q:V->V->Hp->Prop} {af:V->Hp->Prop} {E E0:XK} (ah:fD X.s < room X.s\/E0=λο ο Z=>af (.str "NoRoom") Z) (au:∀x O,(∀c o,H c>o->¬QC X c->O c>o)->(∀c,O c=none->H c=none)->(∀G a5 a2,pC O G->G a5>(.tup (k.map kV))->G a2>(.lst (ms.map V.bl))->X.L a2=0->sp_lfr [.ref X.pl,.ref l,.ref a5,.ref a2] G (λy a3=>Q x y a3) E)->af x O) (q:∀x y Z J a,dD A Z n u J->Go X J H Z->xG (λc=>QC J c\/H c≠none) Z x a->xG (λc=>QC J c\/H c≠none) Z y a->kK a->J.z=X.z->J.pl=X.pl->(fD X.s < room X.s->fD J.s=fD X.s+1)->(∀q∈GC J.s,q∈GC X.s\/q.b=bs)->(∀ad∈uE J.s,ad∈uE X.s\/ad=k)->J.s.fr.length=X.s.fr.length/\J.s.sr.length=X.s.sr.length->Q x y Z):QS A.Aa A.Ad A.Ac A.Am [.ref X.z.p,.ref l,.ref hh,.ref m'] H af E0:=by
 let(N,M,cd):=h.me;let d2:=h.cx.len;let cz:=h.cx.ss.len;let d1:=h.cx.ss.hh;let nl:∀{c},¬QC X c->¬Hq X.z X.s c:=λn j=>n (j.imp id λq=>q.imp id .inl);let a1:∀{c},¬QC X c->X.L c=0:=λn=>LA λj=>n (.inr (.inr (.inr j)));let cx:fD X.p=fD X.s/\room X.p=room X.s:=⟨by unfold fD;rw[WP h.cx.si.fr,WP h.cx.si.sr],by unfold room;omega⟩
 show(X.z,X.s,l,hh,m',bs,k,ms,rfl,h.cx.ss,h.cx.ap,h.cx.tw,ak,λj=>ae (.inr (.inl j)),c0,c2,c3,λr a0=>(h.cx.ok r (.inl a0)).1,?_);by_cases c:fD X.s < room X.s
 .rw[iA c];intro O s1 i az out b1 W cp r a4 bc bd be ab ag bf bg bh bi cu b5 b6 b7 b8 b9 ba bb;let md:=h.mdN a4 bf b6 b7 bc bd be b5;show au _ O (λc o F ci=>md.kp c o F (nl ci)) md.dm λG a5 a2 a9 ai al am=>?_;let k1:xG (λc=>H c≠none\/c=r.bx) O (.ref b1) (some (i,(az,oW out))):=(b1,W,cp,rfl,bg,bh,λj=>j.elim (λj=>j b8) ba,ED.anB bi b9 bb λc us ο F ch j=>j.elim (λj=>j F) ch)
  let k1:=k1.keep (λο ο h=>a9 _ _ h) λο ο h n=>⟨a9 _ _ h,n⟩
  let md:=md.same a9;show(X.pl,X.fl,X.sl,l,a5,a2,X.L,X.p,bs,k,ms,rfl,md.lp,h.ap,md.kp _ _ ak (nl ae),by rw[a1 ae];decide,ai,al,by rw[am];decide,⋯,by rw[h.cx.si.h];omega,⋯,⋯,h.cx.okf,?_);rw[iA ⋯];intro a3 aa a6 d3 d7 ck co ao cq w bj bl bm bt bu a7 bn bp bq br;let(bv,ep,a8,c7):=h.cx.si.ffr h.cx.tw h.cx.lp.tw a4 bj λο ο h=>h;subst bv ep;let cn:QD {s1 with fr:=s1.fr.set i (some r)} {a6 with fr:=a6.fr.set i (some w)}:=(CI (show vE (some r) (some w) from ⟨bt.trans ab.symm,by rw[bu,ag]⟩) i a8.fr,a8.sr,a8.tf,a8.ts,a8.h)
  let(cy,aq,ar,_):=a4.facts h.cx.tw;let pm:=a4.alsF (r:=r) h.cx.tw;let ce:=cd.add pm (by change (s1.fr.set i _).length=_;rw[rA];show aq) ar (by rw[ab];show bx) ag c5 av c1 (bz.imp id λj=>by rw[ab];show j);let(cj,bw):=Md.fin h md bl a7 (by decide) cn bm ce cb c4;let(_,_,cr,b4):=md.ss.at (pm.mem_iff.mpr (wA ..));let ay:∀D,H D=none->VD aa D=0->D≠r.bx->D≠r.hd->¬QC {X with s:={s1 with fr:=s1.fr.set i (some r)},L:=VD aa,p:={a6 with fr:=a6.fr.set i (some w)}} D:=λD U a1 cf cg=>by
   rintro (rfl|j|⟨r',a0,j⟩|j)
   .let(cv,g):=h.cx.ss.me;rw[U] at g;cases g
   .let(us,g):=h.cx.ss.fours _ j;rw[U] at g;cases g
   .let rfl||a0:=xA.mp (pm.mem_iff.mp a0)
    .show j.elim cg cf
    .let(_,_,b2,b3):=h.cx.ss.at a0;let rfl||rfl:=j
     .rw[U] at b3;cases b3
     .rw[U] at b2;cases b2
   .show j a1
  let aw:∀D,aa D=5->¬(QC {X with s:={s1 with fr:=s1.fr.set i (some r)},L:=VD aa,p:={a6 with fr:=a6.fr.set i (some w)}} D\/H D≠none):=λD cw=>by
   let W:G D=none:=by
    let e||e:=a7.lx D
    .have:=h.l4 D;omega
    .show e
   rintro (j|j)
   .show ay D (md.dm D W) (by unfold VD;rw[gA ⋯]) (λe=>by rw[e,cr] at W;cases W) (λe=>by rw[e,b4] at W;cases W) j
   .show j (md.dm D W)
  let cc:∀c us,G c>(.tup us)->a3 c>(.tup us):=λc us F=>a7.kw _ _ F (by rw[md.lp.q.lv.zero F λο j=>nomatch j];decide);show q _ _ a3 _ (some (i,(az,oW out))) cj bw (k1.keep cc λD us F ax=>?_) ?_ (a4.anB ⋯ λr a0=>(h.cx.ok r (.inl a0)).1) rfl rfl (λο=>?_) (λcm ca=>?_) (λad aj=>?_) ⟨by change (s1.fr.set i _).length=_;rw[rA];show aq,ar⟩
  .let U:H D=none:=LA λj=>ax (.inl j);let a1:X.L D=0:=h.cx.lp.q.lv.none U;show⟨a7.kw _ _ F (by rw[a1];decide),?_⟩;rintro (j|j)
   .show ay D U (JM (by rw[a7.lx.at F];show a1)) (λe=>ax (.inr e)) (λe=>by rw[e,b4] at F;cases F) j
   .show j U
  .let ow:oW ck=oW out:=c7.ow λd5 cm ac=>by
    let(_,_,_,e)||(_,d8,d4,_,c9,_,_,_,e):=a4
    .rw[e] at ac;cases ac
    .rw[e] at ac;cases ac;show (h.cx.ok _ (.inl (dA c9))).1
   let k2:=jF.an bq aw;rw[ow] at k2;show(co,ao,cq,rfl,bn,bp,aw ao br,k2)
  .change fD {s1 with fr:=s1.fr.set i (some r)}=_;rw[yT,yT,pm.length_eq,NA]
  .let rfl||j:=xA.mp (pm.mem_iff.mp ca)
   .show .inr ab
   .show .inl j
  .let ap:=pm.flatMap_right Sh.ks;rw[GA,ag] at ap;let j||j:=xA.mp (ap.mem_iff.mp aj)
   .show .inr j
   .show .inl j
 .rw[gA c];let ah||rfl:=ah
  .show absurd ah c
  intro O s1;show au _ O (λc o F ο=>s1 _ _ F) (λc=>xD s1) λG a5 a2 a9 ai al am=>?_;let s1:=s1.trans a9;show(X.pl,X.fl,X.sl,l,a5,a2,X.L,X.p,bs,k,ms,rfl,h.cx.lp.same s1,h.ap,s1 _ _ ak,by rw[a1 ae];decide,ai,al,by rw[am];decide,⋯,by rw[h.cx.si.h];omega,⋯,⋯,h.cx.okf,?_);rw[gA ⋯];intro a3 b0;show q _ _ a3 X none ((h.le av).same (s1.trans b0)) (Go.of (s1.trans b0)) rfl rfl trivial rfl rfl (λj=>absurd j c) (λq c8=>.inl c8) (λad aj=>.inl aj) ⟨rfl,rfl⟩
theorem dD.back (h:dD A H n t X) (be:n<=64) (c4:t<=60) {j:Nat} {c:Sh} {m m':Addr} {ms:!Bool} (J:X.s.sr[j]?>(some c)) (ba:H m>(.lst (ms.map V.bl))) (bb:H m'>(.lst (ms.map V.bl))) (ad:¬QC X m) (bd:ms.length=X.s.fr.length) {Q:V->V->Hp->Prop} {E E':XK} (q:∀x y Z U a,dD A Z n t U->Go X U H Z->xG (λc=>QC U c\/H c≠none) Z x a->xG (λc=>QC U c\/H c≠none) Z y a->kK a->U.z=X.z->U.pl=X.pl->Q x y Z):eY A.Aa A.Ad A.Ac [.ref X.z.p,.int (j:Int),.ref m'] H (λx a2=>sp_lbk [.ref X.pl,.int (j:Int),.ref m] a2 (λy a3=>Q x y a3) E) E':=by
 let(N,M,bn):=h.me;let c3:=h.cx.len;let c1:=h.cx.ss.len;let c2:=h.cx.ss.hh;let(w,bh,bi,bj):=h.cx.si.ats J;show(X.z,X.s,j,m',ms,c,rfl,h.cx.ss,h.cx.ap,h.cx.tw,bb,bd,λr a1=>(h.cx.ok r (.inl a1)).1,J,λa2 s1 i ah out aj b6 bu W ap aq a9 ar au av bw aw am ao=>?_);let md:=h.mdB W J ap aq a9 aw;let bm:X.L m=0:=LA λD=>ad (.inr (.inr (.inr D)));let bc:=md.kp _ _ ba λD=>ad (D.imp id λq=>q.imp id .inl);show(X.pl,X.fl,X.sl,m,X.L,X.p,j,ms,w,rfl,md.lp,h.ap,bh,bc,by rw[bm];decide,⋯,by rw[h.cx.si.h];omega,⋯,⋯,h.cx.okf,λa3 a4 ag c5 c9 a8 bt aa bv a7 ax ay az a0 b0 b1 b2 b3=>?_);let(b7,ep,bg,ac):=h.cx.si.ffr h.cx.tw h.cx.lp.tw W ax λο ο h=>h;subst b7 ep;let ai:=bg.back (i:=i) (j:=j) (q:=c) (q':={w with sh:=a7}) ac bi bj;let(c0,b8,ab,_):=W.facts h.cx.tw;let pm:=W.alsB h.cx.tw J;let(b4,b5,_):=rL (s1:=s1) (i:=i) (j:=j) (c:=c) (out:=out);let bp:Mf N M n t (wD s1 i j c out):=bn.pm pm (by rw[b4,rA];show b8) (by rw[b5];split<;>first|exact ab|(rw[rA];show ab));let(br,b9):=Md.fin h md ⟨ay,ai.tw a9⟩ a0 (by decide) ai az bp ⋯ be;let af:∀F,H F=none->VD a4 F=0->¬QC {X with s:=wD s1 i j c out,L:=VD a4,p:=wD ag i j {w with sh:=a7} a8} F:=λF O a6=>by
  rintro (rfl|D|⟨r,a1,D⟩|D)
  .let(bx,g):=h.cx.ss.me;rw[O] at g;cases g
  .let(us,g):=h.cx.ss.fours _ D;rw[O] at g;cases g
  .let(_,_,ak,al):=h.cx.ss.at (pm.mem_iff.mp a1);let rfl||rfl:=D
   .rw[O] at al;cases al
   .rw[O] at ak;cases ak
  .show D a6
 let ae:∀F,a4 F=5->¬(QC {X with s:=wD s1 i j c out,L:=VD a4,p:=wD ag i j {w with sh:=a7} a8} F\/H F≠none):=λF bz=>by
  let O:H F=none:=by
   let e||e:=a0.lx F
   .have:=h.l4 F;omega
   .show md.dm F e
  rintro (D|D)
  .show af F O (by unfold VD;rw[gA ⋯]) D
  .show D O
 let k1:xG (λc=>H c≠none) a2 (.ref aj) (some (i,(ah,oW out))):=(aj,b6,bu,rfl,ar,au,λD=>D am,ED.an av ao λc us ο J D=>D J)
 let bl:∀c us,a2 c>(.tup us)->a3 c>(.tup us):=λc us J=>a0.kw _ _ J (by rw[md.lp.q.lv.zero J λο D=>nomatch D];decide);show q _ _ a3 _ (some (i,(ah,oW out))) br b9 (k1.keep bl λF us J bq=>?_) ?_ (W.anB ⋯ λr a1=>(h.cx.ok r (.inl a1)).1) rfl rfl
 .let O:H F=none:=LA bq;let a6:X.L F=0:=h.cx.lp.q.lv.none O;show⟨a0.kw _ _ J (by rw[a6];decide),?_⟩;rintro (D|D)
  .show af F O (JM (by rw[a0.lx.at J];show a6)) D
  .show D O
 .let ow:oW a8=oW out:=ac.ow λc8 cb a5=>by
   let(_,_,_,e)||(_,ca,c7,_,bf,_,_,_,e):=W
   .rw[e] at a5;cases a5
   .rw[e] at a5;cases a5;show (h.cx.ok _ (.inl (dA bf))).1
  let k2:=jF.an b2 ae;rw[ow] at k2;show(bt,aa,bv,rfl,b0,b1,ae aa b3,k2)
end
def xI (p:Bool×Nat):Dv:=.seq true (XI [.str (EE p.1),.int (p.2:Int)])
theorem QY {K:W.Frag} {H:Hp}:∀{xs:!V} {ps:!(Bool×Nat)},Paired (iF H) xs ps->IC K H (ps.map xI) xs
 |_,_,.nil=>by unfold IC;rfl
 |_,_,.cons ⟨a,e,h⟩ r=>by
  rw[AA];unfold IC;show(_,_,rfl,by subst e;show j1 (VC.of h) rfl,QY r)
theorem RY:∀(ps:!(Bool×Nat)),AC (ps.map xI)<=1
 |[]=>by rw[cC];unfold AC;omega
 |p::ps=>by
  rw[AA];unfold AC;let h1:=RY ps;let h2:RC (xI p)=1:=by unfold xI RC;rw[YQ]
  omega
def lK (m:(Bool×Nat)×(Bool×Nat)):Dv:=.seq true [xI m.1,xI m.2]
theorem SY {H:Hp} {v:V} {p:Bool×Nat} (h:iF H v p):yD H (xI p) v:=by
 let(a,e,h):=h;unfold xI XI;simp only[AA,cC];unfold yD;show(a,_,e,by rw[iA rfl];show h,by change 2 < 16777216;decide,?_);unfold NC;show(_,_,rfl,by unfold yD;show⟨rfl,rfl⟩,?_);unfold NC;show(_,_,rfl,by unfold yD;show⟨rfl,rfl⟩,?_);unfold NC
 rfl
theorem aM {H:Hp} {v:V} {m:(Bool×Nat)×(Bool×Nat)} (h:cJ H v m):yD H (lK m) v:=by
 let(a,F,J,e,j,q,D):=h;unfold lK yD;show(a,_,e,by rw[iA rfl];show j,by change 2 < 16777216;decide,?_);unfold NC;show(_,_,rfl,SY q,?_);unfold NC;show(_,_,rfl,SY D,?_);unfold NC
 rfl
theorem zT {H:Hp}:∀{us:!V} {M:!((Bool×Nat)×(Bool×Nat))},Paired (cJ H) us M->NC H (M.map lK) us
 |_,_,.nil=>by unfold NC;rfl
 |_,_,.cons h r=>by
  rw[AA];unfold NC;show(_,_,rfl,aM h,zT r)
theorem TY:∀(M:!((Bool×Nat)×(Bool×Nat))),AC (M.map lK)<=2
 |[]=>by rw[cC];unfold AC;omega
 |m::M=>by
  rw[AA];unfold AC;let h1:=TY M;let h2:RC (lK m)=2:=by
   let e1:∀p,RC (xI p)=1:=λp=>by unfold xI RC;rw[YQ]
   unfold lK RC AC AC AC;rw[e1,e1]
   rfl
  omega
theorem Cx.nk {A:cE} {H:Hp} {J:Ss} {s:St} {U:Lb} {pl V Z:Addr} {p:St} (h:Cx A H J s U pl V Z p):∀q w,ZC p q>w->w.ks≠[]:=λq w e=>by
 let j:=h.si.lk q;rw[e] at j;cases F:ZC s q with
 |none=>rw[F] at j;show j.elim
 |some r=>
  rw[F] at j;let D:=OF F;let W:some r∈s.fr\/some r∈s.sr:=by
   cases O:q.1 with
   |true=>rw[O] at D;show .inl (dA D)
   |false=>rw[O] at D;show .inr (dA D)
  intro J;have:=j.2;rw[J] at this;show (h.ok r W).2.1 (List.Perm.nil_eq this).symm
section
variable {A:cE} {H:Hp} {n t:Nat} {X:OD}
theorem dD.fold (h:dD A H n t X) (al:n<=64) (F:t<=61) {Q:V->V->Hp->Prop} {E E':XK} (q:∀x y j J a0,dD A j n t J->Go X J H j->yD j a0 x->yD j a0 y->RC a0<=4->J.z=X.z->J.pl=X.pl->Q x y j):vY A [.ref X.z.p] H (λx U=>sp_lfd [.ref X.pl] U (λy D=>Q x y D) E) E':=by
 let(N,M,a1):=h.me;let ax:=h.cx.len;let av:=h.cx.ss.len;show(X.z,X.s,rfl,h.cx.ss,h.cx.ap,h.cx.tw,a1.fi F,λU g a6 a7 a8 a9 aa ab ac ad ae af=>?_);let md:=h.mdF F a7 a8 a9 ae af;show(X.pl,X.fl,X.sl,X.L,X.s,X.p,rfl,md.lp,h.ap,h.cx.si,a1.fi F,h.cx.nk,⋯,⋯,λD ao us a2 a3 ar ag W Z=>?_);let ah:spA X.p=spA X.s:=h.cx.si.spA;let a5:=HY h.cx.si (spA X.s).length;rw[ah] at a2 a3 W;let(ap,ai):=Md.fin h md a2 Z (by decide) a5.s a3 (a1.fold F) F al;let am:∀c us,U c>(.tup us)->D c>(.tup us):=λc us O=>Z.kw _ _ O (by rw[md.lp.q.lv.zero O λο aq=>nomatch aq];decide);let ak:D g>(.lst a6):=Z.kw _ _ ac (by rw[h.cx.lp.q.lv.none ab];decide);let aj:(GD X.p (spA X.s).length).M=(dE X.s).M:=a5.M;rw[aj] at W;let a4:((dE X.s).M.map lK).length < 16777216:=by
  let aw:=aa.ml;let au:(spA X.s).length<=128:=by
   unfold spA;rw[jA,fA,fA,WA,WA];omega
  rw[fA];omega
 show q _ _ D _ (.seq false ((dE X.s).M.map lK)) ap ai ?_ ?_ ?_ rfl rfl
 .unfold yD;show(g,a6,rfl,ak,a4,zT (Paired.mapP ad λο ο q=>q.to λc us O=>am c us O))
 .unfold yD;show(ao,us,rfl,ag,a4,zT W)
 .have:=TY (dE X.s).M;unfold RC;omega
theorem dD.lp (h:dD A H n t X) {N:!Nat} {U:Lb} {a0 W:Hp} {s' Z:St} {u a9 a8:Nat} (mv:Mv N X.L U H a0) (V:0∉N) (a6:Lp a0 U X.pl X.fl X.sl Z) (aq:xC A.Aa A.Ad A.Ac W X.z s') (ac:Ap s') (tw:Tw s') (ae:Bx s') (ab:∀c o,a0 c>o->¬Hq X.z X.s c->W c>o) (a3:∀r∈GC s',∃O∈GC X.s,r.hd=O.hd/\r.bx=O.bx/\r.sh=O.sh) (dm:∀c,W c=none->a0 c=none) (ap:QD s' Z) (ad:Ap Z) (a1:Mf a9 a8 n u s') (al:u<=61) (aj:n<=64):dD A W n u {X with s:=s',L:=VD U,p:=Z}/\Go X {X with s:=s',L:=VD U,p:=Z} H W:=by
 let J:=h.cx.cs.mv mv h.cx.lp.q.lv V;let lq:∀c,U c≠0->¬Hq X.z X.s c:=λc j=>by
  let(ag,a5):=J.ss.me;let(us,g):=a6.q.lv c j;rintro (rfl|q|⟨r,D,rfl|rfl⟩)
  .rw[a5] at g;cases g
  .show j (J.l0 _ q)
  .let(_,_,_,a7):=J.ss.at D;rw[a7] at g;cases g
  .show j (J.lb r (gF.mp D))
 let F:Zv [] U U a0 W:=(λο=>.inl rfl,λc o j w=>ab c o j (w.elim (λ⟨us,e⟩ ak=>by
  let(ag,a5):=J.ss.me;let nl:∀us',o≠.lst us':=λus'=>by let rfl||(p,rfl):=e<;>show λF=>nomatch F
  let a2:∀us',o≠.dT us':=λus'=>by let rfl||(p,rfl):=e<;>show λF=>nomatch F
  let ao:∀a b aa,o≠.ins a b aa:=λa b aa=>by let rfl||(p,rfl):=e<;>show λF=>nomatch F
  let rfl||q||(r,D,rfl||rfl):=ak
  .rw[a5] at j;show ao _ _ _ (bA j).symm
  .let(us',g):=J.ss.fours _ q;rw[g] at j;show nl _ (bA j).symm
  .let(_,_,_,a7):=J.ss.at D;rw[a7] at j;show a2 _ (bA j).symm
  .let(_,_,ar,_):=J.ss.at D;rw[ar] at j;show nl _ (bA j).symm) λw=>lq c w.1),dm)
 let am:=a6.zv F (a6.q.lv.zv F);let af:∀c,W c=none->H c=none:=λc j=>mv.dm c (dm c j);let hd:∀c,QC {X with s:=s',L:=VD U,p:=Z} c->QC X c\/H c=none:=λc j=>by
  let j||j||(r,D,j)||j:=j
  .show .inl (.inl j)
  .show .inl (.inr (.inl j))
  .let(O,V,ah,a4,_):=a3 r D;show .inl (.inr (.inr (.inl (O,V,j.imp (λF=>F.trans ah) λF=>F.trans a4))))
  .let e||e:=mv.lx c
   .show .inl (.inr (.inr (.inr (by rw[<-e];show wT j))))
   .show .inr e
 show(((aq,ac,tw,ae,λc j=>JM (J.l0 c j),λr D=>?_,am.cut,ap,λr D=>(a1.one al (gF.mpr D),a1.ne r (gF.mpr D),by rw[a1.sz r (gF.mpr D)];show aj)),ad,(a9,a8,a1),λc=>NY),λc o j a2=>ab c o (mv.kw c o j ?_) (λF=>a2 (F.imp id λq=>q.imp id .inl)),hd,λc j=>?_,af)
 .let(O,V,_,a4,_):=a3 r (gF.mpr D);rw[a4];show JM (J.lb O (gF.mp V))
 .have:X.L c=0:=LA λe=>a2 (.inr (.inr (.inr e)));rw[this];show V
 .let j||j||j||(r,D,rfl):=j
  .show (hd c j).imp .inl id
  .show .inl (.inr (.inl j))
  .show .inl (.inr (.inr (.inl j)))
  .let(O,V,_,_,ai):=a3 r D;show .inl (.inr (.inr (.inr (O,V,ai))))
theorem dD.hold (h:dD A H n t X) (ao:n<=64) (ar:t+1<=61) {f:Bool} {j:Nat} {r w:Sh} {a4 hh:Addr} {k:!Key} {a5:Hp} (F:(X.s.rw f)[j]?>(some r)) (a1:(X.p.rw f)[j]?>(some w)) (a2:w.b=r.b/\w.ks.Perm r.ks) {vs:!V} (a9:H w.hd>(.lst vs)) (av:Paired (λv k=>∃a,v=V.ref a/\H a>(.tup (k.map kV))) vs w.ks) (au:H a4>(.tup [.str (EE f),.int (j:Int)])) (a6:H hh>(.tup (k.map kV))) (am:∃(w:Str) (x:Int) (y:Nat),k=[.inr w,.inl x,.inl (y:Int)]/\(100<=x\/y < t+1)) (a7:k∉uE X.s) (ai:a5=upd H w.hd (.lst (vs++[.ref hh]))) {Q:V->Hp->Prop} {E':XK} (q:∀x Z O,x=.non->dD A Z n (t+1) O->Go X O H Z->O.z=X.z->O.pl=X.pl->Q x Z):jY A.Aa A.Ad A.Ac [.ref X.z.p,.ref a4,.ref hh] a5 Q E':=by
 let(N,M,W):=h.me;subst ai;let(b4,xs,o,_,_,_,_,_,_,_,_,ay,_):=h.cx.lp.row a1;let mv:Mv [4] X.L X.L H (upd H w.hd (.lst (vs++[.ref hh]))):=Mv.set a9 (by rw[ay];simp);let J:=ZL F;let ab:=W.one ⋯ J;let a8:k∉r.ks:=λD=>a7 (eC.mpr (r,J,D));let aq:=W.ne r J;let aw:w.ks≠[]:=λD=>aq (by have:=a2.2;rw[D] at this;show this.nil_eq.symm);let az:=h.cx.lp.ks h.ap a1 aw (ks':=w.ks++[k]) (us':=vs++[.ref hh]) (UG av (hh,rfl,a6));let ah:=h.cx.cs.mv mv h.cx.lp.q.lv (by decide);let aa:∀{c us},H c>(.tup us)->upd H w.hd (.lst (vs++[.ref hh])) c>(.tup us):=λU=>by rw[sC (HD U a9 nofun)];show U
 show(X.z,X.s,a4,hh,f,j,r,k,rfl,ah.ss,h.cx.ap,aa au,F,aa a6,a8,by have:=ab.1;omega,λac ad ae af ag=>?_);let(b2,b3):=dJ (r':={r with ks:=r.ks++[k]}) F;let lens:∀(s:St) (o:Option Sh),(s.put f j o).fr.length=s.fr.length/\(s.put f j o).sr.length=s.sr.length:=λs o=>by
  cases f with
  |true=>show⟨rA,rfl⟩
  |false=>show⟨rfl,rA⟩
 let b0:Mf N M n (t+1) (X.s.put f j (some {r with ks:=r.ks++[k]})):=W.swap b2 b3 (lens _ _).1 (lens _ _).2 (W.sz r J) (by simp) (KA.mpr (ab.2.1,JA.mpr ⟨by simp,.nil⟩,λa ak b al D=>a8 (by rw[<-nA.mp al,<-D];show ak))) (λax a0=>(UA.mp a0).imp id λD=>by rw[nA.mp D];show a7) (λax a0 ap=>by
  let D||D:=UA.mp a0
  .show absurd (eC.mpr (r,J,D)) ap
  .rw[nA.mp D];show am) (.inr ⟨rfl,by change (r.ks++[k]).length<=_;rw[jA];show pA _⟩)
 let(b1,aj):=h.lp mv (by decide) az ad ae (h.cx.tw.put F) (VS (r':={r with ks:=r.ks++[k]}) h.cx.bx F rfl) (λc o U a3=>af c o U (λe=>a3 (.inl e)) (λe=>a3 (.inr (.inl e))) λe=>a3 (.inr (.inr (r,J,.inl e)))) (xT (r':={r with ks:=r.ks++[k]}) F rfl rfl rfl) ag (h.cx.si.put (show vE (some {r with ks:=r.ks++[k]}) (some {w with ks:=w.ks++[k]}) from ⟨a2.1,a2.2.append_right [k]⟩)) (tL (r':={w with ks:=w.ks++[k]}) h.ap a1 rfl) b0 ar ao;show q _ ac _ rfl b1 aj rfl rfl
theorem dD.let_go (h:dD A H n t X) (ah:n<=64) (ak:t+1<=61) {f:Bool} {j:Nat} {r w:Sh} {a6 hh:Addr} {k:!Key} {ks:!(!Key)} {D:Hp} (F:(X.s.rw f)[j]?>(some r)) (b5:(X.p.rw f)[j]?>(some w)) (ab:w.b=r.b/\w.ks.Perm r.ks) (ag:w.ks.Perm (k::ks)) (al:H a6>(.tup [.str (EE f),.int (j:Int)])) (av:D hh>(.tup (k.map kV))) (a4:Lp D X.L X.pl X.fl X.sl (if ks=[] then UC X.p f j else X.p.put f j (some {w with ks:=ks}))) (a1:Ap (if ks=[] then UC X.p f j else X.p.put f j (some {w with ks:=ks}))) (mv:Mv [1,2,4] X.L X.L H D) {Q:V->Hp->Prop} {E':XK} (q:∀x a7 U,x=.non->dD A a7 n (t+1) U->Go X U H a7->U.z=X.z->U.pl=X.pl->Q x a7):aK A.Aa A.Ad A.Ac [.ref X.z.p,.ref a6,.ref hh] D Q E':=by
 let(N,M,a5):=h.me;let a3:=ZL F;let ao:=a5.one ⋯ a3;let aq:=h.cx.cs.mv mv h.cx.lp.q.lv (by decide);let aw:k∈r.ks:=ab.2.mem_iff.mp (ag.mem_iff.mpr (wA ..));let az:D a6>(.tup [.str (EE f),.int (j:Int)]):=mv.kw _ _ al (by rw[h.cx.lp.q.lv.zero al λο b4=>nomatch b4];decide);show(X.z,X.s,a6,hh,f,j,r,k,rfl,aq.ss,h.cx.ap,h.cx.tw,az,F,av,aw,λa8 W Z a0 ap af=>?_);let aj:r.ks.Perm (k::ks):=ab.2.symm.trans ag;let b1:=JA.mp (aj.nodup_iff.mp ao.2.1);let a2:(SD r.ks k).Perm ks:=by
  unfold SD;show (aj.filter _).trans ?_;let ar:ks.filter (λx=>decide (x≠k))=ks:=List.filter_eq_self.mpr λx b0=>BA (λe=>b1.1 (by rw[<-e];show b0):x≠k);rw[fB (by simp),ar]
 let lens:∀(s:St) (o:Option Sh),(s.put f j o).fr.length=s.fr.length/\(s.put f j o).sr.length=s.sr.length:=λs o=>by
  cases f with
  |true=>show⟨rA,rfl⟩
  |false=>show⟨rfl,rA⟩
 let am:∀c o,D c>o->¬Hq X.z X.s c->a8 c>o:=λc o au ad=>ap c o au (λe=>ad (.inl e)) (λe=>ad (.inr (.inl e))) λe=>ad (.inr (.inr (r,a3,.inl e)));by_cases c:ks=[]
 .subst c;rw[iA rfl] at a4 a1;let a9:MH X.s f j r k=UC X.s f j:=iA a2.eq_nil;rw[a9] at W Z a0;let pm:=i7 F;let ac:Mf N M n (t+1) (UC X.s f j):=(a5.off pm (by rw[IL.1];show (lens _ _).1) (by rw[IL.2];show (lens _ _).2)).up;let(ae,aa):=h.lp mv (by decide) a4 W Z a0 (JA.mp ((pm.map Sh.bx).nodup_iff.mp h.cx.bx)).2 am (λq ay=>(q,pm.mem_iff.mpr (kA _ ay),rfl,rfl,rfl)) af h.cx.si.empt a1 ac ak ah;show q _ a8 _ rfl ae aa rfl rfl
 .rw[gA c] at a4 a1;let ai:SD r.ks k≠[]:=λe=>c (by rw[e] at a2;show a2.nil_eq.symm);let a9:MH X.s f j r k=X.s.put f j (some {r with ks:=SD r.ks k}):=gA ai;rw[a9] at W Z a0;let(b2,b3):=dJ (r':={r with ks:=SD r.ks k}) F;let sub:∀J∈SD r.ks k,J∈r.ks:=λJ O=>(yB.mp O).1;let ac:Mf N M n (t+1) (X.s.put f j (some {r with ks:=SD r.ks k})):=a5.swap b2 b3 (lens _ _).1 (lens _ _).2 (a5.sz r a3) ai (ao.2.1.filter _) (λJ O=>.inl (sub J O)) (λJ O ax=>absurd (eC.mpr (r,a3,sub J O)) ax) (.inl (gC ..));let(ae,aa):=h.lp mv (by decide) a4 W Z a0 (VS (r':={r with ks:=SD r.ks k}) h.cx.bx F rfl) am (xT (r':={r with ks:=SD r.ks k}) F rfl rfl rfl) af (h.cx.si.put (show vE (some {r with ks:=SD r.ks k}) (some {w with ks:=ks}) from ⟨ab.1,a2.symm⟩)) a1 ac ak ah;show q _ a8 _ rfl ae aa rfl rfl
end
theorem j7 {G:Hp} {a b:Addr} {o F x:HO} (n:a≠b) (D:G a>o):upd (upd (upd G a F) b x) a o=upd G b x:=by
 funext c;by_cases j:c=a
 .rw[j,HC,sC n,D]
 .rw[sC j];by_cases q:c=b
  .rw[q,HC,HC]
  .rw[sC q,sC j,sC q]
theorem Lp.rebox {G:Hp} {J:Lb} {pl D ad:Addr} {p:St} {j:Nat} {w:Sh} {q:Addr} {bs:!Int} (O:Lp G J pl D ad p) (ai:Ap p) (a2:p.fr[j]?>(some w)) (a4:p.tf[j]?>none) (ak:w.ks≠[]) (al:G q>(.lst (bs.map V.int))) (ab:J q=3):Lp (upd G w.sh (.lst [.ref q,.ref w.hd,.non])) J pl D ad (p.put true j (some {w with b:=bs,bx:=q}))/\Mv [2] J J G (upd G w.sh (.lst [.ref q,.ref w.hd,.non])):=by
 let(us,a0,az,ah):=O.q.hf;let(b1,aa,l3):=O.q.l1;let(v,am,(rfl,a3,ax,ag,U,ay,a7)):=ah j _ _ a2 a4;let(aq,ar):=O.alone ai a2 ak;let b0:=(aA.mp a2).1;let a5:w.sh≠D:=λe=>by rw[e,aa] at U;cases U
 let au:=O.q.frame a0 (j:=j) (v:=.non) (r:=none) (o:=none) rfl;let af:upd G D (.lst (us.set j .non)) w.sh>(.lst [.ref w.bx,.ref w.hd,oV none]):=by rw[sC a5];show a3
 let av:=au.cell (x:=[.ref q,.ref w.hd,.non]) af U (λus' e W=>by
  rw[HC] at e;rw[<-HO.lst.inj (bA e)] at W;let(i,F):=IA.mp W;rw[oA] at F;by_cases c:j=i
  .subst c;rw[iA rfl] at F
   split at F<;>cases F
  .rw[gA c] at F;show aq us a0 i (Ne.symm c) F) (λaw e W=>ar aw (by rw[sC (Ne.symm O.q.ne.2.2)] at e;show e) W)
 let k3:∀{c us'},G c>(.lst us')->J c=3\/J c=4->upd (upd G D (.lst (us.set j .non))) w.sh (.lst [.ref q,.ref w.hd,.non]) c>(.lst us'):=λZ a8=>by
  rw[sC (λe=>by rw[e,U] at a8;omega),sC (λe=>by rw[e,aa] at a8;omega)];show Z
 let ap:∀c us',G c>(.tup us')->upd (upd G D (.lst (us.set j .non))) w.sh (.lst [.ref q,.ref w.hd,.non]) c>(.tup us'):=λc us' Z=>by
  rw[sC (HD Z a3 (λa6=>nomatch a6)),sC (HD Z a0 (λa6=>nomatch a6))];show Z
 let aj:upd (upd G D (.lst (us.set j .non))) w.sh (.lst [.ref q,.ref w.hd,.non]) D>(.lst (us.set j .non)):=by rw[sC (Ne.symm a5),HC]
 let ac:=av.frame aj (j:=j) (v:=.ref w.sh) (r:=some {w with b:=bs,bx:=q}) (o:=none) (rfl,HC,k3 al (.inl ab),ag.to (λus W=>k3 W (.inr a7)) ap,U,ab,a7);let ae:(us.set j V.non).set j (.ref w.sh)=us:=by rw[AB];show fJ am
 rw[ae,j7 (Ne.symm a5) a0,AB,AB,fJ a4] at ac;show⟨⟨?_,O.tw.put (f:=true) a2⟩,Mv.set a3 (by rw[U];simp)⟩;show Lq.twins ac λa9 ao a1=>?_;let a1:=O.tw.back a9 ao a1;let F:a9≠j:=λe=>by rw[e,a4] at a1;cases a1
 show tT F
section
variable {A:cE} {H:Hp} {n t:Nat} {X:OD}
theorem dD.box (h:dD A H n t X) (ak:n<=64) (am:t+1<=61) {i k:Nat} {r:Sh} {x:Int} {N:!Nat} {a7:Lb} {F:Hp} {a6:St} (ab:X.s.fr[i]?>(some r)) (ai:k < r.b.length) (mv:Mv N X.L a7 H F) (a9:0∉N) (ap:Lp F a7 X.pl X.fl X.sl a6) (af:Ap a6) (az:QD (SH X.s i r k x) a6) {Q:V->Hp->Prop} {E':XK} (q:∀v a1 J,v=.non->dD A a1 n (t+1) J->Go X J H a1->J.z=X.z->J.pl=X.pl->J.s=SH X.s i r k x->Q v a1):iY A.Aa A.Ad A.Ac [.ref X.z.p,.int (i:Int),.int (k:Int),.int x] F Q E':=by
 let(ae,ad,Z):=h.me;let D:(X.s.rw true)[i]?>(some r):=ab;let O:=ZL D;let ax:=Z.one ⋯ O;let ag:=h.cx.cs.mv mv h.cx.lp.q.lv a9;let a3:GC (SH X.s i r k x)=GC (X.s.put true i (some {r with b:=r.b.set k x})):=by
  unfold SH GC;rw[UF.1,UF.2.1]
 show(X.z,X.s,i,k,r,x,rfl,ag.ss,h.cx.tw,h.cx.bx,ab,ai,λa2 W a8=>?_);let(ay,ac):=dJ (r':={r with b:=r.b.set k x}) D;let aq:Mf ae ad n (t+1) (SH X.s i r k x):=Z.swap (r':={r with b:=r.b.set k x}) ay (by rw[a3];show ac) (by unfold SH;rw[UF.1];show rA) (by unfold SH;rw[UF.2.1];rfl) (by change (r.b.set k x).length=n;rw[rA];show Z.sz r O) (Z.ne r O) ax.2.1 (λao a4=>.inl a4) (λao a4 al=>absurd (eC.mpr (r,O,a4)) al) (.inl (pA _));let dm:∀c,a2 c=none->F c=none:=λc j=>by
  cases e:F c with
  |none=>rfl
  |some o=>
   let(b0,g):=W.me;let ar:c≠X.z.p:=λU=>by rw[U,g] at j;cases j
   let au:c∉X.z.four:=λU=>by let(us,g):=W.fours c U;rw[g] at j;cases j
   let av:c≠r.bx:=λU=>by
    let aj:({r with b:=r.b.set k x}:Sh)∈GC (SH X.s i r k x):=by rw[a3];show ac.mem_iff.mpr (wA ..)
    let(_,_,a0,_):=W.at aj;let a0:a2 r.bx=_:=a0;rw[<-U,j] at a0;cases a0
   rw[a8 c o e ar au av] at j;cases j
 let(aw,ah):=h.lp mv a9 ap W (tL (r':={r with b:=r.b.set k x}) h.cx.ap D rfl).untie (h.cx.tw.put D).untie (VS (r':={r with b:=r.b.set k x}) h.cx.bx D rfl).untie (λc o j a5=>a8 c o j (λe=>a5 (.inl e)) (λe=>a5 (.inr (.inl e))) λe=>a5 (.inr (.inr (r,O,.inr e)))) (λq aa=>by rw[a3] at aa;show xT (r':={r with b:=r.b.set k x}) D rfl rfl rfl q aa) dm az af aq am ak;show q _ a2 _ rfl aw ah rfl rfl rfl
end
def bM (C P S:Addr):Sp:=λvs H Q ο=>∃(z:Ss) (s:St) (j b:Nat) (r:Sh) (x:Int),vs=[.ref z.p,.int (j:Int),.int (b:Int)]/\xC C P S H z s/\s.fr[j]?>(some r)/\r.b[b]?>x/\Q (.int x) H
theorem SO (T:LD K mg A):SC P w K mg base A.Aa "box_of" 1 ["self","frame","box"] [] (bM A.Aa A.Ad A.Ac):=by
 show T.Dr.have P4 (λvs H Q E D=>?_) ?_
 .let(D,s,j,b,r,x,rfl,_):=D;rfl
 .intro f a6 a5 ac ad H vs Q E ab D;let(D,s,j,b,r,x,rfl,F,a2,a4,q):=D;let(a7,a1):=F.me;let(J,ae,U,V,W,a8,a9):=id F.fr;let(v,a3,rfl,(O,Z),a0,aa):=nG W a2;show(_,(FC (sD (BC LC (YC (BC LC (YC (YC (lC 0) rfl) rfl) (lC 1) (λο ο=>rfl)) rfl) (lC 2) (λο ο=>rfl)))),?_);rfl';simp only[a1];rfl';show(T.Ab,T.Ae,_,FF,D.fp,rfl,_,J,_,U,T.Af,T.Ag,_,AF,D.ly,rfl,_,uC.of V,_,CC a3,r.sh,rfl,_,O,_,Z,T.An,T.At,_,uM,r.bx,rfl,_,uC.of a0,_,CC (by rw[FA,a4];rfl),q)
structure Gh (hl:Addr) (vs:!V) (X X':OD) (H H':Hp):Prop where
 keep:∀c o,H c>o->¬QC X c->c≠hl->H' c>o
 hd:∀c,QC X' c->QC X c\/H c=none
 ow:∀c,Ow X' c->Ow X c\/H c=none
 dm:∀c,H' c=none->H c=none
 he:H' hl>(.lst vs)\/∃p x y a,kK a/\H' hl>(.lst (vs++[.ref p]))/\H p=none/\H' p>(.tup [x,y])/\xG (λc=>QC X' c\/H c≠none) H' x a/\xG (λc=>QC X' c\/H c≠none) H' y a
theorem Go.gh {j:Addr} {vs:!V} {X D:OD} {H q:Hp} (g:Go X D H q) (h:H j>(.lst vs)) (n:¬QC X j):Gh j vs X D H q:=(λc o F J ο=>g.keep c o F J,g.hd,g.ow,g.dm,.inl (g.keep _ _ h n))
theorem eQ {s p:St} (h:QD s p) {f:Bool} {j:Nat} {w:Sh} (D:(p.rw f)[j]?>(some w)):∃r,(s.rw f)[j]?>(some r)/\w.b=r.b/\w.ks.Perm r.ks:=by
 let(a,q,e):=nG (h.rw f) D;cases a with
 |none=>show e.elim
 |some r=>show(r,q,e)
section
variable {A:cE} {H:Hp} {n t:Nat} {X:OD}
theorem Ow.nl (h:dD A H n t X) {c:Addr} {us:!V} (j:H c>(.lst us)) (F:¬QC X c):¬Ow X c:=by
 let(_,_,q,_):=h.cx.ss.fr;let(_,_,D,_):=h.cx.ss.sl;rintro (O|rfl|rfl|⟨r,hr,rfl⟩)
 .show F O
 .rw[q] at j;cases j
 .rw[D] at j;cases j
 .let(_,(_,J),_):=h.cx.ss.at hr;rw[J] at j;cases j
theorem dD.app (h:dD A H n t X) {c:Addr} {us vs:!V} (q:H c>(.lst us)) (D:¬QC X c):dD A (upd H c (.lst vs)) n t X:=by
 show h.stay (λa o j w=>?_) λa j=>?_
 .rewrite[sC λe=>?_];(try with_reducible rfl)
  .show j
  .subst e;let w||(us',rfl||(p,rfl)):=w
   .show Ow.nl h q D w
   .rw[q] at j;cases j
   .rw[q] at j;cases j
 .by_cases e:a=c
  .subst e;rw[HC] at j;cases j
  .rw[sC e] at j;show j
theorem dD.held {W:OD} {a2 D:Hp} {J:Addr} {us:!V} {x y:V} {a:Ans} {Q:VK} {E':XK} (ak:dD A D n t W) (a0:Go X W a2 D) (a1:pC H a2) (ao:H J>(.lst us)) (ah:¬QC X J) (ar:us.length<=1000) (al:xG (λc=>QC W c\/a2 c≠none) D x a) (am:xG (λc=>QC W c\/a2 c≠none) D y a) (aa:kK a) (p:Addr) (a6:D p=none)
  (q:∀F Z,F=upd (upd D p (.tup [x,y])) J (.lst (us++[.ref p]))->pC F Z->dD A Z n t W->Gh J us X W H Z->Q (.bl true) Z):
  upd D p (.tup [x,y]) J>(.lst us)/\us.length < 16777216/\upd (upd D p (.tup [x,y])) J (.lst (us++[.ref p])) p>(.tup [x,y])/\FS 5 [x,y] (upd (upd D p (.tup [x,y])) J (.lst (us++[.ref p]))) Q E':=by
 let(a3,ab):=jD (o:=.tup [x,y]) a6;let a8:=a1 _ _ ao;let a9:=a0.keep _ _ a8 ah;let ac:=a3 _ _ a9;let ai:p≠J:=λe=>by rw[e,a9] at a6;cases a6
 let aq:¬QC W J:=λO=>(a0.hd _ O).elim ah λe=>by rw[a8] at e;cases e
 let ag:∀c us',D c>(.tup us')->upd (upd D p (.tup [x,y])) J (.lst (us++[.ref p])) c>(.tup us'):=λc us' j=>by rw[sC (HD j a9 nofun)];show a3 _ _ j
 let af:∀c us',D c>(.lst us')->¬(QC W c\/a2 c≠none)->upd (upd D p (.tup [x,y])) J (.lst (us++[.ref p])) c>(.lst us')/\¬(QC W c\/H c≠none):=λc us' j a4=>by
  let a7:a2 c=none:=LA λO=>a4 (.inr O);show⟨?_,λO=>O.elim (λO=>a4 (.inl O)) λO=>O (xD a1 a7)⟩;rw[sC (λe=>by rw[e,a8] at a7;cases a7)];show a3 _ _ j
 let ad:=al.keep ag af;let ae:=am.keep ag af;show(ac,⋯,by rw[sC ai];show ab,x,y,KM a,rfl,cQ ad aa,cQ ae aa,kB (PY a) (by decide),λZ U=>q _ Z rfl U (((ak.same a3).app ac aq).same U) ?_);let aj:∀c,Z c=none->D c=none:=λc j=>by
  let a5:=xD U j;by_cases e:c=J
  .subst e;rw[HC] at a5;cases a5
  .rw[sC e] at a5;show xD a3 a5
 show(λc o j ap ne=>U _ _ (by rw[sC ne];show a3 _ _ (a0.keep _ _ (a1 _ _ j) ap)),λc j=>(a0.hd c j).imp id λe=>xD a1 e,λc j=>(a0.ow c j).imp id λe=>xD a1 e,λc j=>xD a1 (a0.dm c (aj c j)),.inr (p,x,y,a,aa,U _ _ HC,xD a1 (a0.dm p a6),U _ _ (by rw[sC ai];show ab),?_,?_))
 .show ad.keep (λc us' j=>U _ _ j) λc us' j a4=>⟨U _ _ j,a4⟩
 .show ae.keep (λc us' j=>U _ _ j) λc us' j a4=>⟨U _ _ j,a4⟩
end
theorem o7 {s:St} {f:Bool} {i j:Nat} {a:Option Sh}:untie (s.put f j a) i=(untie s i).put f j a:=by
 unfold untie;let e:(s.put f j a).tf=s.tf:=by cases f<;>rfl
 rw[e]
 split
 .cases f<;>rfl
 .rfl
theorem p7 {s:St} {i:Nat} {o:Option Nat} (h:s.tf[i]?>o):(untie s i).tf[i]?>none:=by
 unfold untie;rw[h];cases o with
 |none=>show h
 |some j=>change (s.tf.set i none)[i]?=_;rw[yA (aA.mp h).1]
theorem pick {p:St} {G:Hp} {us:!V} (O:Paired (iF G) us (QF p)) {i:Nat} (a0:i < us.length):∃(a:Addr) (f:Bool) (j:Nat) (w:Sh),us[i]?=↑a/\G a>(.tup [.str (EE f),.int (j:Int)])/\(p.rw f)[j]?>(some w):=by
 let a1:=Paired.length O;obtain⟨q,W⟩:∃q,(QF p)[i]?>q:=⟨_,cA ⋯⟩
 let(v,Z,a,rfl,U):=nG O W;let D:=dA W;unfold QF at D;let D||D:=UA.mp D
 .let(k,F,rfl):=jB.mp D;let(w,J):=UP F;show(a,true,k,w,Z,U,J)
 .let(k,F,rfl):=jB.mp D;let(w,J):=UP F;show(a,false,k,w,Z,U,J)
def UY (X:OD) (a8:Addr) (G:Hp):Prop:=∃(f:Bool) (j:Nat) (w9:Sh),G a8>(.tup [.str (EE f),.int (j:Int)])/\(X.p.rw f)[j]?>(some w9)
theorem fQ {K:W.Frag} {H:Hp} {D e:Addr} {us:!V} {j:!(Bool×Nat)} {Q:VK} (F:H D>(.lst us)) (O:Paired (iF H) us j) (J:H e>(.lst [])) (q:Q (.bl (decide (j≠[]))) H):IK K 4 (.ref D) (.ref e) H Q:=by
 show(false,j.map xI,[],(by unfold ID;show(D,us,rfl,by rw[gA lA];show uC.of F,QY O)),(by unfold ID;show(e,[],rfl,by rw[gA lA];show uC.of J,by unfold IC;rfl)),FY _,kB (RY _) (by decide),?_);cases j with
 |nil=>show q
 |cons p j=>rw[AA];simpa[rD] using q
def t7 (A:cE):Sp:=λvs H Q ο=>∃(n t:Nat) (X:OD) (hl l hh mk:Addr) (way x:Int) (us:!V) (bs:!Int) (ms:!Bool) (k:!Key),vs=[.ref X.z.p,.ref X.pl,.ref hl,.int way,.int x,.ref l,.ref hh,.ref mk]/\dD A H n t X/\1<=n/\n<=64/\t<=60/\H hl>(.lst us)/\us.length<=1000/\¬QC X hl/\H l>(.lst (bs.map V.int))/\¬QC X l/\bs.length=n/\H mk>(.lst (ms.map V.bl))/\¬QC X mk/\ms.length=X.s.fr.length/\H hh>(.tup (k.map kV))/\hl≠l/\hl≠mk/\(∃(w:Str) (x:Int),k=[.inr w,.inl x,.inl (t:Int)]/\x < 100)/\
 ∀H' X',dD A H' n (t+1) X'->Gh hl us X X' H H'->X'.z=X.z->X'.pl=X.pl->Q (.bl true) H'
theorem cM (T:LD K mg A):oE P w K mg base "_law_more" 8 ["_law_sheets","_law_plain","_law_held","_law_way","_law_number_here","_law_sheet_here","_law_holder","_law_marks"] [] (t7 A):=by
 let bj:=@xP P w K mg base A T 5;show T.Fu.have BI (λvs H Q E a0=>?_) ?_
 .let(n,t,X,au,l,hh,mk,ad,x,us,bs,ms,k,rfl,_):=a0;rfl
 .intro f gx gv hm s H vs Q E a6 a0;let(n,t,X,au,l,hh,mk,ad,x,us,bs,ms,k,rfl,a1,h3,ao,bz,bc,g9,c2,fy,nl,ft,g1,gm,g2,fw,hj,hk,eb,q):=a0;show(_,(AD (oM (i:=8) BI.nd rfl rfl rfl (vH (XD (VP T) (-a6) WC (nC (lC 1) (nC wE wC)))) (x:="_law_k") (fs:=[]) (ix:=[]) rfl rfl (λο ο ο ο ο ο=>(jE (i:=0) (show (["_law_k"]:!Str).Nodup by decide+kernel) rfl (Or.inl rfl))) (λο ο ο ο ο ο=>FG) (λο ο ο ο ο ο=>(aF (nC wE (nC (lC 0) wC)))))
   (AD (oM (i:=9) BI.nd rfl rfl rfl (vH (XD (VP T) (-a6) WC (nC (lC 1) (nC wE wC)))) (x:="_law_k") (fs:=[]) (ix:=[]) rfl rfl (λο ο ο ο ο ο=>(jE (i:=0) (show (["_law_k"]:!Str).Nodup by decide+kernel) rfl (Or.inl rfl))) (λο ο ο ο ο ο=>FG) (λο ο ο ο ο ο=>(aF (nC wE (nC (lC 0) wC)))))
   (AD (JD (PW.pt (uH (CD GQ (lC 3) (aF (nC yC (nC yC (nC yC wC)))) (by with_unfolding_all rfl)) (tH (CD (mM (n:=4) (AI a6)) (lC 9) (cF wC) (rC _))))) (OC (mD (i:=10) BI.nd rfl (Or.inl rfl) (BC ND (BC LC (lC 9) (KC FE (lC 4) (MD BE rfl T.Aj PySem.boot_len (nC (lC 9) wC))) (λο ο=>rfl)) yC (λο ο=>rfl)))
   (OC (kF (lH PySem.F.plainAttrs_list PySem.F.slot_list_append PySem.F.type_list_append BH (lC 2) (nC (aF (nC (pF (lC 0) T.Ab (sL T) (-a6) WC (nC (lC 10) (nC (aH tJ rfl T.A7 bB (nC (lC 7) wC)) wC))) (nC (XD (GO T) (-a6) WC (nC (lC 1) (nC (lC 10) (nC (lC 7) wC)))) wC))) wC)))
   (FC (sD (XD bj (-a6) WC (nC (BC ND (BC LC (lC 2) (gP oP yC) (λο ο=>rfl)) yC (λο ο=>rfl)) (nC (BC ND (BC LC (lC 2) (gP oP yC) (λο ο=>rfl)) yC (λο ο=>rfl)) wC))))))) KD)
   (AD (JD (PW.pt (uH (CD bF (lC 3) yC (rC _)) (tH (CD (mM (n:=4) (AI a6)) (lC 8) (cF wC) (rC _))))) (OC (mD (i:=11) BI.nd rfl (Or.inl rfl) (BC ND (BC LC (lC 8) (KC FE (lC 4) (MD BE rfl T.Aj PySem.boot_len (nC (lC 8) wC))) (λο ο=>rfl)) yC (λο ο=>rfl)))
   (OC (mD (i:=12) BI.nd rfl (Or.inl rfl) (KC FE (KC pG (lC 4) yC) (MD BE rfl T.Aj PySem.boot_len (nC (lC 5) wC))))
   (OC (kF (XD (qT T) (-a6) WC (nC (lC 1) (nC (lC 11) wC))))
   (OC (mD (i:=13) BI.nd rfl (Or.inl rfl) (aH tJ rfl T.A7 bB (nC (BC LC (BC LC (BC LC (lC 1) yC (λο ο=>rfl)) (lC 11) (λο ο=>rfl)) yC (λο ο=>rfl)) wC)))
   (OC (mF (BC LC (lC 5) (lC 12) (λο ο=>rfl)) (lF (lC 13) (lC 12) oF))
   (OC (mF (lC 13) (lF (BC LC (BC LC (lC 1) yC (λο ο=>rfl)) (lC 11) (λο ο=>rfl)) yC oF))
   (OC (JD (yI (gG (XD bj (-a6) WC (nC (pF (lC 0) T.Ab (yL T) (-a6) WC (nC (lC 11) (nC (lC 12) (nC (BC LC (lC 5) (lC 12) (λο ο=>rfl)) wC)))) (nC BD wC))))) (FC (sD NG)) KD)
   (FC (sD (XD bj (-a6) WC (nC (pF (lC 0) T.Ab (SO T) (-a6) WC (nC (lC 11) (nC (lC 12) wC))) (nC (BC LC (lC 5) (lC 12) (λο ο=>rfl)) wC)))))))))))) KD)
   (AD (JD (PW.pt (uH (CD bF (lC 3) yC (rC _)) (tH (CD (mM (n:=4) (AI a6)) (KC uJ (lC 8) (lC 9)) (cF wC) (rC _))))) (AD (mD (i:=14) BI.nd rfl (Or.inl rfl) (BC LC (KC uJ (lC 8) (lC 9)) (KC FE (lC 4) (MD BE rfl T.Aj PySem.boot_len (nC (KC uJ (lC 8) (lC 9)) wC))) (λο ο=>rfl)))
   (OC (kF (lH PySem.F.plainAttrs_list PySem.F.slot_list_append PySem.F.type_list_append BH (BC LC (BC LC (BC LC (lC 1) (aH lN rfl T.Bf DB (nC (xH bF (BC ND (lC 14) yC (λο ο=>rfl)) wE (rC _)) wC)) (λο ο=>rfl)) (BC ND (lC 14) yC (λο ο=>rfl)) (λο ο=>rfl)) yC (λο ο=>rfl)) (nC (lC 6) wC)))
   (FC (sD (XD bj (-a6) WC (nC (pF (lC 0) T.Ab (kY T) (-a6) WC (nC (lC 14) (nC (lC 6) wC))) (nC BD wC))))))) KD)
   (AD (JD (PW.pt (uH (CD GQ (lC 3) (aF (nC yC (nC yC wC))) (by with_unfolding_all rfl)) (tH (CD (mM (n:=4) (AI a6)) (KC uJ (lC 8) (lC 9)) (cF wC) (rC _))))) (AD (mD (i:=14) BI.nd rfl (Or.inl rfl) (BC LC (KC uJ (lC 8) (lC 9)) (KC FE (lC 4) (MD BE rfl T.Aj PySem.boot_len (nC (KC uJ (lC 8) (lC 9)) wC))) (λο ο=>rfl)))
   (OC (mD (i:=15) BI.nd rfl (Or.inl rfl) (XD (JO T) (-a6) WC (nC (lC 1) (nC (lC 14) (nC (KC xQ (KC FE (KC pG (lC 4) yC) yC) yC) wC)))))
   (FC (sD (XD bj (-a6) WC (nC (pF (lC 0) T.Ab (WS T) (-a6) WC (nC (lC 14) (nC (lC 15) wC))) (nC BD wC))))))) KD)
   (FC (sD NG)))))))),?_)
  let hz:=PySem.sizeLine_eq;let h0:=a1.cx.len;let gy:=a1.cx.ss.len;let ha:(TD X.p.fr).length<=64:=by have:=HM (rows:=X.p.fr) (k:=X.p.fr.length);unfold TD;omega
  let hb:(TD X.p.sr).length<=64:=by have:=HM (rows:=X.p.sr) (k:=X.p.sr.length);unfold TD;omega
  let eo:∀(b:Bool) (i k:Nat) (rows:!(Option Sh)),(TD rows)[i]?>k->((TD rows).take (i+1)).map (λx=>(b,x))=((TD rows).take i).map (λx=>(b,x))++[(b,k)]:=λb i k rows h=>by rw[IM h,MA];rfl
  show(λW G=>∃al,W=[↑X.z.p,↑X.pl,↑au,some (.int ad),some (.int x),↑l,↑hh,↑mk,↑al,none,none,none,none,none,none,none]/\pC H G/\∃J,G al>(.lst J)/\Paired (iF G) J ((TD X.p.fr).map (true,·)),?_,λhu f1=>?_)
  .rfl';show(X.pl,X.fl,X.sl,X.L,X.p,true,rfl,a1.cx.lp,⋯,⋯,λc4 dk s1 bd b4=>(dk,rfl,⟨_,uC.of b4⟩,λbl bp=>?_));show nM (xs:=oG X.p.fr) (λi ae W Z=>∃v,W=[v]/\pC c4 Z/\Z bl>(.lst ae)/\Paired (iF Z) ae (((TD X.p.fr).take i).map (true,·))) (_,rfl,gE vD bp,HC,.nil) (λi ae W Z _ bb=>by let(_,bb):=bb;show uC.of (bb.2.1 _ _ b4)) (λi v ae W Z ar=>?_) (λae W Z=>?_)
   .rintro⟨dv,rfl,a9,b7,a5⟩;let d9:i < (TD X.p.fr).length:=by have:=(aA.mp ar).1;unfold oG at this;rw[fA] at this;show this
    let(k,bu,av):=bQ d9;rw[ar] at av;obtain rfl:=bA av;rfl';intro t bz;let(a8,cq):=jD (o:=.tup [V.str "frame",V.int (k:Int)]) bz;let bq:=a8 _ _ b7;let dj:=Paired.length a5;rw[fA,dB] at dj;generalize upd Z t _=J2 at *;let b9:∀{c o},J2 c>o->(∀us,o≠.lst us)->upd J2 bl (.lst (ae++[V.ref t])) c>o:=λb0 ao=>by rw[sC (HD b0 bq (λe=>ao _ e))];show b0
    show(bq,⋯,qF (a9.trans a8) bp,?_);rw[eo _ _ _ _ bu];show UG (Paired.mapP a5 λ_ _ ⟨a,e,q⟩=>(a,e,b9 (a8 _ _ q) (λο a0=>nomatch a0))) (t,rfl,b9 cq (λο a0=>nomatch a0))
   .rintro⟨dv,rfl,a9,b7,a5⟩;rw[show (oG X.p.fr).length=(TD X.p.fr).length from fA .., eB] at a5;show(s1.trans a9,_,b7,a5)
  rintro⟨al,rfl,s1,J,fv,e4⟩;show(λW G=>∃ay,W=[↑X.z.p,↑X.pl,↑au,some (.int ad),some (.int x),↑l,↑hh,↑mk,↑al,↑ay,none,none,none,none,none,none]/\pC f1 G/\∃O,G ay>(.lst O)/\Paired (iF G) O ((TD X.p.sr).map (false,·)),?_,λhv dy=>?_)
  .rfl';show(X.pl,X.fl,X.sl,X.L,X.p,false,rfl,a1.cx.lp.same s1,⋯,⋯,λc4 dk a9 bd b4=>(dk,rfl,⟨_,uC.of b4⟩,λbl bp=>?_));show nM (xs:=oG X.p.sr) (λi ae W Z=>∃v,W=[v]/\pC c4 Z/\Z bl>(.lst ae)/\Paired (iF Z) ae (((TD X.p.sr).take i).map (false,·))) (_,rfl,gE vD bp,HC,.nil) (λi ae W Z _ bb=>by let(_,bb):=bb;show uC.of (bb.2.1 _ _ b4)) (λi v ae W Z ar=>?_) (λae W Z=>?_)
   .rintro⟨dv,rfl,a9,b7,a5⟩;let d9:i < (TD X.p.sr).length:=by have:=(aA.mp ar).1;unfold oG at this;rw[fA] at this;show this
    let(k,bu,av):=bQ d9;rw[ar] at av;obtain rfl:=bA av;rfl';intro t bz;let(a8,cq):=jD (o:=.tup [V.str "slot",V.int (k:Int)]) bz;let bq:=a8 _ _ b7;let dj:=Paired.length a5;rw[fA,dB] at dj;generalize upd Z t _=J2 at *;let b9:∀{c o},J2 c>o->(∀us,o≠.lst us)->upd J2 bl (.lst (ae++[V.ref t])) c>o:=λb0 ao=>by rw[sC (HD b0 bq (λe=>ao _ e))];show b0
    show(bq,⋯,qF (a9.trans a8) bp,?_);rw[eo _ _ _ _ bu];show UG (Paired.mapP a5 λ_ _ ⟨a,e,q⟩=>(a,e,b9 (a8 _ _ q) (λο a0=>nomatch a0))) (t,rfl,b9 cq (λο a0=>nomatch a0))
   .rintro⟨dv,rfl,ak,b7,a5⟩;rw[show (oG X.p.sr).length=(TD X.p.sr).length from fA .., eB] at a5;show(a9.trans ak,_,b7,a5)
  rintro⟨ay,rfl,a9,O,ej,d5⟩;let e9:=a9 _ _ fv;let e5:=Paired.mapP e4 λο ο q=>q.same a9;show(λW G=>W=[↑X.z.p,↑X.pl,↑au,some (.int ad),some (.int x),↑l,↑hh,↑mk,↑al,↑ay,none,none,none,none,none,none]/\pC dy G,?_,λhw dz=>?_)
  .rfl';intro du dg;let(a8,b4):=jD (o:=.tup [V.int 2,V.int 3,V.int 4]) dg;generalize upd dy du _=G at *;simp only[aB,GB];show(_,.inr (VC.of b4),rfl,rfl,?_);by_cases ai:iM (V.int ad) [V.int 2,V.int 3,V.int 4]=true
   .rw[iA ai];intro lp dc;let(af,co):=jD (o:=.lst []) dc;generalize upd G lp _=Z at *;let cj:=a8.trans af;let df:=cj _ _ ej;let a5:=Paired.mapP d5 λο ο q=>q.same cj;show fQ df a5 co ?_;show(_,rfl,?_);by_cases c:(TD X.p.sr).map (λk=>(false,k))≠[]
    .rw[iA (BA c)];let ax:=(s1.trans a9).trans cj;let cw:=Paired.length a5;let dd:0 < ((TD X.p.sr).map (λk=>(false,k))).length:=by
      cases e:(TD X.p.sr).map (λk=>(false,k)) with
      |nil=>show absurd e c
      |cons _ _=>show Nat.succ_pos _
     let g8:0 < O.length:=⋯;let ba:=qB x (b:=(O.length:Int)) ⋯;let dl:=iB x (b:=(O.length:Int)) ⋯;let(j,da):=WB ba;let db:j < (TD X.p.sr).length:=by rw[fA] at cw;omega
     obtain⟨a2,bv⟩:∃a2,(TD X.p.sr)[j]?>a2:=⟨_,cA db⟩
     let(v,av,a4,rfl,am):=nG a5 (i:=j) (y:=(false,a2)) (by rw[FA,bv];rfl);let(D,a7):=UP (dA bv);let(aj,ah,_):=eQ a1.cx.si (f:=false) a7;let(b6,ap):=a1.cx.ss.me;let ed:=ax _ _ g1;show(O.length,.inl (O,uC.of df,rfl),⋯,O,uC.of df,.ref a4,by rw[da];show CC av,a4,rfl,_,VC.of am,.int (a2:Int),CC (j:=1) rfl,.inl (rfl,us,uC.of (ax _ _ bc)),b6,_,ax _ _ ap,DE ∅,ms.map V.bl,.inl (uC.of ed),λh8 fz=>?_);let(aa,cp):=jD (o:=.lst (ms.map V.bl)) fz;show dD.back (a1.same (ax.trans aa)) ao bz ah (aa _ _ ed) cp gm g2 λgs gt cm az gw b8 b1 gb gc fo ag ab=>λdp g4=>?_;let(cx,fg,e2,fh):=dD.held (Q:=Q) (E':=λc x f4=>E c none f4) b8 b1 (ax.trans aa) bc c2 g9 gb gc fo dp g4 λF f0 ο ο fj fk=>q f0 az fj.up fk ag ab;show(us,cx,fg,_,uC.of HC,_,lP _ _,dp,rfl,_,VC.of e2,gs,CC (j:=0) rfl,_,uC.of HC,_,lP _ _,dp,rfl,_,VC.of e2,gt,CC (j:=1) rfl,fh)
    .rw[gA (by rw[zA c];show lA)];show cj
   .rw[gA ai];show a8
  rintro⟨rfl,ak⟩;let fm:=a1.same ((s1.trans a9).trans ak);show(λW G=>W=[↑X.z.p,↑X.pl,↑au,some (.int ad),some (.int x),↑l,↑hh,↑mk,↑al,↑ay,none,none,none,none,none,none]/\pC dz G,?_,λhx e0=>?_)
  .rfl';by_cases ai:ad=5
   .rw[iA ai];intro lp dc;let(af,co):=jD (o:=.lst []) dc;let d8:=af _ _ (ak _ _ e9);let ax:=((s1.trans a9).trans ak).trans af;let a5:=Paired.mapP e5 λο ο q=>q.same (ak.trans af);generalize upd dz lp _=Z at *;show fQ d8 a5 co ?_;show(_,rfl,?_);by_cases c:(TD X.p.fr).map (λk=>(true,k))≠[]
    .rw[iA (BA c)];let cw:=Paired.length a5;let dd:0 < ((TD X.p.fr).map (λk=>(true,k))).length:=by
      cases e:(TD X.p.fr).map (λk=>(true,k)) with
      |nil=>show absurd e c
      |cons _ _=>show Nat.succ_pos _
     let g8:0 < J.length:=⋯;let ba:=qB x (b:=(J.length:Int)) ⋯;let dl:=iB x (b:=(J.length:Int)) ⋯;let(j,da):=WB ba;let db:j < (TD X.p.fr).length:=by rw[fA] at cw;omega
     obtain⟨a2,bv⟩:∃a2,(TD X.p.fr)[j]?>a2:=⟨_,cA db⟩
     let(v,av,a4,rfl,am):=nG a5 (i:=j) (y:=(true,a2)) (by rw[FA,bv];rfl);let(D,a7):=UP (dA bv);let(aj,ah,cf,di):=eQ a1.cx.si (f:=true) a7;let br:=a1.same ax;let bd:=ax _ _ fy;let gl:=qB (x / 64) (b:=(bs.length:Int)) ⋯;let hg:=iB (x / 64) (b:=(bs.length:Int)) ⋯;let(b,fu):=WB gl;let ca:b < bs.length:=⋯;obtain⟨a3,dh⟩:∃a3,bs[b]?>a3:=⟨_,cA ca⟩
     let eh:=ZL ah;let(N,M,b2):=a1.me;let be:D.ks≠[]:=λa0=>b2.ne aj eh (by rw[a0] at di;show di.nil_eq.symm);let c0:D.b.length=bs.length:=by rw[cf,b2.sz aj eh,ft]
     show(J.length,.inl (J,uC.of d8,rfl),⋯,J,uC.of d8,.ref a4,by rw[da];show CC av,a4,rfl,_,VC.of am,.int (a2:Int),CC (j:=1) rfl,bs.length,.inl (_,uC.of bd,by rw[fA]),⋯,br.cx.lp.ut a7 λo gr ee ga h5 cx h4=>?_);let(ch,en):=br.cx.lp.unt a7 ee ga cx be;let el:((untie X.p a2).rw true)[a2]?>(some D):=by change (untie X.p a2).fr[a2]?=_;rw[UF.1];show a7
     let eg:=p7 ee;let ec:L2.HO.lst (bs.map V.int)=.lst (bs.map V.int):=rfl;let em:X.L l=0:=LA λa0=>nl (.inr (.inr (.inr a0)));let ec:=en.kw _ _ bd (by rw[em];decide);generalize AE Z X.sl D gr o=U at *;let(dq,xs,gn,_,cd,cg,ce,e7,_,he,h7,h9,hc,h6,g5,_):=ch.row el;let(ef,rfl):=g5 rfl;rw[eg] at ef;obtain rfl:=bA ef;show(_,uC.of ch.q.hp,_,CC (j:=0) rfl,_,rfl,xs,a2,rfl,uC.of cd,_,CC cg,_,rfl,_,uC.of ce,_,CC (j:=0) rfl,_,rfl,D.b.map V.int,.inl (uC.of e7),λbg cc=>?_);rw[fu];show(_,uC.of ((jD cc).1 _ _ ec),.int a3,CC (by rw[FA,dh];rfl),_,rfl,b,by rw[fA,c0];show GM ca,?_);rw[<-List.map_set];let(cn,fa):=jD (o:=.lst ((D.b.set b a3).map V.int)) cc;let ge:=ch.new (k:=3) (us:=(D.b.set b a3).map V.int) cc;let gj:Mv [1,2] X.L (lab X.L bg 3) Z (upd U bg (.lst ((D.b.set b a3).map V.int))):=en.trans (Mv.new cc);let(gf,gk):=ge.rebox (bs:=D.b.set b a3) a1.ap.untie (by rw[UF.1];show a7) eg be fa (by unfold lab;rw[iA rfl]);let mv:=gj.trans (gk.sub λk bu=>by rw[nA.mp bu];decide);show(_,uC.of (cn _ _ ch.q.hp),_,CC (j:=0) rfl,_,rfl,xs,a2,rfl,uC.of (cn _ _ cd),_,CC cg,_,rfl,_,cn _ _ ce,0,rfl,?_);let(b6,ap):=br.cx.ss.me;change ∃hr hs,upd (upd U bg (.lst ((D.b.set b a3).map V.int))) D.sh (.lst [.ref bg,.ref D.hd,.non]) X.z.p=_/\_;let gp:QD (SH X.s a2 aj b a3) ((untie X.p a2).put true a2 (some {D with b:=D.b.set b a3,bx:=bg})):=by
      unfold SH;rw[o7];show a1.cx.si.untie.put ⟨by change D.b.set b a3=aj.b.set b a3;rw[cf],di⟩
     show(b6,_,mv.kw _ _ ap (by rw[br.cx.lp.q.lv.zero ap λο a0=>nomatch a0];decide),DE ∅,_,uC.of (mv.kw _ _ bd (by rw[em];decide)),.int a3,CC (by rw[FA,dh];rfl),?_);show br.box ao ⋯ ah (by rw[<-cf,c0];show ca) mv (by decide) gf (tL (r':={D with b:=D.b.set b a3,bx:=bg}) a1.ap.untie el rfl) gp λv cm az bm b8 b1 ag ab es=>?_;subst bm;show(.non,.non,.leaf .non,rfl,by unfold yD;show⟨rfl,rfl⟩,by unfold yD;show⟨rfl,rfl⟩,by unfold RC;decide,λc5 aw=>(true,rfl,?_));rw[gA (by decide)];let d4:=b8.same aw;let(fb,e3):=d4.cx.ss.me;rw[ag] at e3;let fx:=aw _ _ (b1.keep _ _ bd nl);show(fb,_,e3,DE ∅,X.z,az.s,a2,b,{aj with b:=aj.b.set b a3},a3,rfl,by rw[<-ag];show d4.cx.ss,?_,?_,_,uC.of fx,.int a3,CC (by rw[FA,dh];rfl),.int a3,.int a3,.leaf (.int a3),rfl,by unfold yD;show⟨rfl,rfl⟩,by unfold yD;show⟨rfl,rfl⟩,by unfold RC;decide,λf5 c3=>?_)
     .rw[es];unfold SH;rw[UF.1];change (X.s.fr.set a2 _)[a2]?=_;rw[yA (aA.mp (show X.s.fr[a2]?=_ from ah)).1]
     .change (aj.b.set b a3)[b]?=_;rw[yA (by rw[<-cf,c0];show ca)]
     .show q f5 az (d4.same c3) (((Go.of ax).trans b1).trans (Go.of (aw.trans c3)) |>.gh bc c2) ag ab
    .rw[gA (by rw[zA c];show lA)];show af
   .rw[gA ai,gA lA];show vD
  rintro⟨rfl,bh⟩;let gz:=fm.same bh;let d7:=bh _ _ (ak _ _ e9);let de:=bh _ _ (ak _ _ ej);let c9:Paired (iF e0) (J++O) (QF X.p):=LP (Paired.mapP e5 λο ο q=>q.same (ak.trans bh)) (Paired.mapP d5 λο ο q=>q.same (ak.trans bh));let eq:=((s1.trans a9).trans ak).trans bh;let gg:=Paired.length e4;rw[fA] at gg;let gi:=Paired.length d5;rw[fA] at gi;let hf:=Paired.length c9;show(λW G=>W=[↑X.z.p,↑X.pl,↑au,some (.int ad),some (.int x),↑l,↑hh,↑mk,↑al,↑ay,none,none,none,none,none,none]/\pC e0 G,?_,λhy e1=>?_)
  .rfl';by_cases ai:ad=6
   .rw[iA ai];show(J,d7,O,de,⋯,λag c8 ab d1=>?_);let(a8,b5):=jD (o:=.lst (J++O)) c8;let(af,cr):=jD (o:=.lst []) d1;let b5:=af _ _ b5;let ac:=a8.trans af;generalize upd _ ab _=Z at *;show fQ b5 (Paired.mapP c9 λο ο q=>q.same ac) cr ?_;show(_,rfl,?_);by_cases c:QF X.p≠[]
    .rw[iA (BA c)];show(λW G=>∃a4:Addr,W=[↑X.z.p,↑X.pl,↑au,some (.int ad),some (.int x),↑l,↑hh,↑mk,↑al,↑ay,none,none,none,none,↑a4,none]/\pC Z G/\UY X a4 G,?_,λgu ck=>?_)
     .rfl';let bt:=ac _ _ d7;let bw:=ac _ _ de;show(J,bt,O,bw,⋯,λcp d2=>?_);let(aa,cu):=jD (o:=.lst (J++O)) d2;show(J,aa _ _ bt,O,aa _ _ bw,⋯,λf9 d3=>?_);let(b3,cv):=jD (o:=.lst (J++O)) d3;let dd:0 < (QF X.p).length:=by
       cases e:QF X.p with
       |nil=>show absurd e c
       |cons _ _=>show Nat.succ_pos _
      let ba:=qB x (b:=((J++O).length:Int)) ⋯;let dl:=iB x (b:=((J++O).length:Int)) ⋯;let(i,ar):=WB ba;let(a4,f,j,D,bn,cy,cz):=pick c9 (i:=i) ⋯;show((J++O).length,.inl (_,uC.of cv,rfl),⋯,J++O,uC.of (b3 _ _ cu),.ref a4,by rw[ar];show CC bn,a4,rfl,aa.trans b3,f,j,D,b3 _ _ (aa _ _ (ac _ _ cy)),cz)
     rintro⟨a4,rfl,dr,f,j,D,am,a7⟩;let bi:=(eq.trans ac).trans dr;let aq:=a1.same bi;let(aj,ah,bf):=eQ a1.cx.si (f:=f) a7;let(dq,xs,gn,fq,cd,cg,ce,e7,(vs,cb,ek),_):=aq.cx.lp.row a7;let(b6,ap):=aq.cx.ss.me;let(N,M,b2):=a1.me;let dn:=b2.one ⋯ (ZL ah);let gq:vs.length < 16777216:=by
      let ag:=Paired.length ek;let ab:=bf.2.length_eq;let fc:=dn.1;omega
     let b9:∀{c o},ck c>o->(∀us,o≠.lst us)->upd ck D.hd (.lst (vs++[.ref hh])) c>o:=λb0 ao=>by rw[sC (HD b0 cb (λe=>ao _ e))];show b0
     let g3:k∉uE X.s:=λg0=>by
      let(hn,hp,ht,z1,z2):=b2.ky k g0;let(ho,hq,z3,z4):=eb;rw[z3] at z1;simp only[lB,Sum.inr.injEq,Sum.inl.injEq] at z1;omega
     rfl';show(_,VC.of am,.str (EE f),CC (j:=0) rfl,rfl,.inr (_,uC.of aq.cx.lp.q.hp,.ref dq,fq,_,VC.of am,.int (j:Int),CC (j:=1) rfl,dq,rfl,xs,j,rfl,uC.of cd,_,CC cg,_,rfl,_,uC.of ce,.ref D.hd,CC (j:=1) rfl,.inl (rfl,vs,uC.of cb),D.hd,rfl,vs,cb,gq,?_));show(b6,_,b9 ap (λο a0=>nomatch a0),DE ∅,?_);show aq.hold ao ⋯ ah a7 bf cb ek am (bi _ _ fw) (by let(w,x,e,_):=eb;show(w,x,t,e,.inr (Nat.lt_succ_self t))) g3 rfl λv cm az bm b8 b1 ag ab=>?_;subst bm;show(.non,.non,.leaf .non,rfl,by unfold yD;show⟨rfl,rfl⟩,by unfold yD;show⟨rfl,rfl⟩,by unfold RC;decide,λc5 aw=>q c5 az (b8.same aw) (((Go.of bi).trans b1).trans (Go.of aw) |>.gh bc c2) ag ab)
    .rw[gA (by rw[zA c];show lA)];show ac
   .rw[gA ai,gA lA];show vD
  rintro⟨rfl,ci⟩;let bt:=ci _ _ d7;let bw:=ci _ _ de;let e6:=Paired.mapP c9 λο ο q=>q.same ci;let dt:=eq.trans ci;show(λW G=>W=[↑X.z.p,↑X.pl,↑au,some (.int ad),some (.int x),↑l,↑hh,↑mk,↑al,↑ay,none,none,none,none,none,none]/\pC e1 G,?_,λi1 f2=>?_)
  .rfl';intro du dg;let(c7,f7):=jD (o:=.tup [V.int 7,V.int 8]) dg;generalize upd e1 du _=G at *;simp only[aB,GB];show(_,.inr (VC.of f7),rfl,rfl,?_);by_cases ai:iM (V.int ad) [V.int 7,V.int 8]=true
   .rw[iA ai];show(J,c7 _ _ bt,O,c7 _ _ bw,⋯,λag c8 ab d1=>?_);let(a8,b5):=jD (o:=.lst (J++O)) c8;let(af,cr):=jD (o:=.lst []) d1;let b5:=af _ _ b5;let ac:=c7.trans (a8.trans af);generalize upd _ ab _=Z at *;show fQ b5 (Paired.mapP e6 λο ο q=>q.same ac) cr ?_;show(_,rfl,?_);by_cases c:QF X.p≠[]
    .rw[iA (BA c)];show(λW G=>∃a4:Addr,W=[↑X.z.p,↑X.pl,↑au,some (.int ad),some (.int x),↑l,↑hh,↑mk,↑al,↑ay,none,none,none,none,↑a4,none]/\pC Z G/\UY X a4 G,?_,λgu ck=>?_)
     .rfl';let e8:=ac _ _ bt;let ei:=ac _ _ bw;show(J,e8,O,ei,⋯,λcp d2=>?_);let(aa,cu):=jD (o:=.lst (J++O)) d2;show(J,aa _ _ e8,O,aa _ _ ei,⋯,λf9 d3=>?_);let(b3,cv):=jD (o:=.lst (J++O)) d3;let dd:0 < (QF X.p).length:=by
       cases e:QF X.p with
       |nil=>show absurd e c
       |cons _ _=>show Nat.succ_pos _
      let ba:=qB x (b:=((J++O).length:Int)) ⋯;let dl:=iB x (b:=((J++O).length:Int)) ⋯;let(i,ar):=WB ba;let(a4,f,j,D,bn,cy,cz):=pick e6 (i:=i) ⋯;show((J++O).length,.inl (_,uC.of cv,rfl),⋯,J++O,uC.of (b3 _ _ cu),.ref a4,by rw[ar];show CC bn,a4,rfl,aa.trans b3,f,j,D,b3 _ _ (aa _ _ (ac _ _ cy)),cz)
     rintro⟨a4,rfl,dr,f,j,D,am,a7⟩;let bi:=(dt.trans ac).trans dr;let aq:=a1.same bi;let(aj,ah,bf):=eQ a1.cx.si (f:=f) a7;let(N,M,b2):=a1.me;let dn:=b2.one ⋯ (ZL ah);let be:D.ks≠[]:=λa0=>b2.ne aj (ZL ah) (by have:=bf.2;rw[a0] at this;show this.nil_eq.symm);let c0:D.ks.length < 640:=by
      let ab:=bf.2.length_eq;let fc:=dn.1;omega
     obtain⟨c1,ks',ea⟩:∃c1 ks',(x / 64 % 2 - 1=0/\D.ks=c1::ks')\/(x / 64 % 2 - 1= -1/\D.ks=ks'++[c1]):=by
      let e||e:=(by omega:x / 64 % 2 - 1=0\/x / 64 % 2 - 1= -1)
      .cases ff:D.ks with
       |nil=>show absurd ff be
       |cons a b=>show(a,b,.inl ⟨e,rfl⟩)
      .show(D.ks.getLast be,D.ks.dropLast,.inr ⟨e,(List.dropLast_concat_getLast be).symm⟩)
     let(b6,ap):=aq.cx.ss.me;rfl';show(X.pl,X.fl,X.sl,a4,X.L,X.p,f,j,D,_,c1,ks',rfl,aq.cx.lp,a1.ap,am,a7,c0,ea,λc4 c8 bn gd f6 mv=>?_);show(b6,_,mv.kw _ _ ap (by rw[aq.cx.lp.q.lv.zero ap λο a0=>nomatch a0];decide),DE ∅,?_);show aq.let_go ao ⋯ ah a7 bf (by let(_,e)||(_,e):=ea<;>rw[e];show List.perm_append_singleton c1 ks') am bn gd f6 mv λv cm az bm b8 b1 ag ab=>?_;subst bm;show(.non,.non,.leaf .non,rfl,by unfold yD;show⟨rfl,rfl⟩,by unfold yD;show⟨rfl,rfl⟩,by unfold RC;decide,λc5 aw=>q c5 az (b8.same aw) (((Go.of bi).trans b1).trans (Go.of aw) |>.gh bc c2) ag ab)
    .rw[gA (by rw[zA c];show lA)];show ac
   .rw[gA ai];show c7
  rintro⟨rfl,c3⟩;let fn:=a1.same (dt.trans c3);rfl';show q f2 X fn.up (Go.of (dt.trans c3) |>.gh bc c2) rfl rfl
def K7 (X:OD) (H G:Hp) (mk:Addr):Prop:=pC H G/\H mk=none/\∃ms:!Bool,G mk>(.lst (ms.map V.bl))/\ms.length=X.s.fr.length
def L7 (n:Nat) (H G:Hp) (l:Addr):Prop:=pC H G/\H l=none/\∃bs:!Int,G l>(.lst (bs.map V.int))/\bs.length=n
def M7 (t:Nat) (H G:Hp) (hh:Addr):Prop:=pC H G/\∃(w:Str) (x:Int),G hh>(.tup (([.inr w,.inl x,.inl (t:Int)]:!Key).map kV))/\x < 100
def VY (A:cE) (n t:Nat) (X:OD) (hl:Addr) (us:!V) (H G:Hp):Prop:=∃X',dD A G n (t+1) X'/\Gh hl us X X' H G/\X'.z=X.z/\X'.pl=X.pl
theorem Gh.same {D:Addr} {vs:!V} {X q:OD} {H j G:Hp} (g:Gh D vs X q H j) (s:pC j G):Gh D vs X q H G:=
 (λc o h n e=>s _ _ (g.keep c o h n e),g.hd,g.ow,λc h=>g.dm c (xD s h),g.he.imp (λe=>s _ _ e) λ⟨p,x,y,a,F,J,O,U,W,Z⟩=>(p,x,y,a,F,s _ _ J,O,s _ _ U,W.keep (λο ο h=>s _ _ h) λο ο h n=>⟨s _ _ h,n⟩,Z.keep (λο ο h=>s _ _ h) λο ο h n=>⟨s _ _ h,n⟩))
theorem Gh.after {F:Addr} {vs:!V} {X D:OD} {H G q:Hp} (g:Gh F vs X D G q) (s:pC H G):Gh F vs X D H q:=
 (λc o h n e=>g.keep c o (s _ _ h) n e,λc h=>(g.hd c h).imp id (xD s),λc h=>(g.ow c h).imp id (xD s),λc h=>xD s (g.dm c h),g.he.imp id λ⟨p,x,y,a,J,O,U,W,Z,a0⟩=>
  let k:∀c us,q c>(.lst us)->¬(QC D c\/G c≠none)->q c>(.lst us)/\¬(QC D c\/H c≠none):=λc us h n=>⟨h,λj=>j.elim (λj=>n (.inl j)) λj=>j (xD s (LA λe=>n (.inr e)))⟩
  (p,x,y,a,J,O,xD s U,W,Z.keep (λο ο h=>h) k,a0.keep (λο ο h=>h) k))
def N7 (A:cE):Sp:=λvs H Q ο=>∃(n t:Nat) (X:OD) (hl:Addr) (x:Int) (us:!V),vs=[.ref X.z.p,.ref X.pl,.ref hl,.int x,.int (t:Int),.int (n:Int)]/\dD A H n t X/\1<=n/\n<=64/\t<=60/\H hl>(.lst us)/\us.length<=1000/\¬QC X hl/\
 ∀H' X',dD A H' n (t+1) X'->Gh hl us X X' H H'->X'.z=X.z->X'.pl=X.pl->Q (.bl true) H'
theorem dM (T:LD K mg A):oE P w K mg base "_law_deed" 9 ["_law_sheets","_law_plain","_law_held","_law_number_here","_law_k","_law_size_here"] [] (N7 A):=by
 let aj:=@xP P w K mg base A T 5;let bj:=@NO P w K mg base A T;show T.Fv.have ZI (λvs H Q E a1=>?_) ?_
 .let(n,t,X,J,x,us,rfl,_):=a1;rfl
 .intro f co ch cx s H vs Q E a0 a1;let(n,t,X,J,x,us,rfl,a3,c9,ae,cc,a8,bb,av,q):=a1;show(_,(AD (oM (i:=6) ZI.nd rfl rfl rfl (iG rfl T.Aq (nC (MD BE rfl T.Aj PySem.boot_len (nC (BC LC (lC 1) yC (λο ο=>rfl)) wC)) wC)) (x:="_law_j") (fs:=["_law_number_here"]) (ix:=[3]) rfl rfl (λο ο ο ο ο ο=>(jE (i:=0) (show (["_law_j","_law_number_here"]:!Str).Nodup by decide+kernel) rfl (Or.inl rfl))) (λο ο ο ο ο ο=>FG) (λο ο ο ο ο ο=>(xH bF (KC FE (KC OV (lC 1) (KC FE (lC 0) yC)) yC) yC (rC _))))
   (OC (mD (i:=7) ZI.nd rfl (Or.inl rfl) (KC pG (lC 3) yC))
   (AD (mD (i:=8) ZI.nd rfl (Or.inl rfl) (XD (QO T) (-a0) WC (nC (lC 7) (nC (lC 5) wC))))
   (AD (mD (i:=9) ZI.nd rfl (Or.inl rfl) (aF (nC (BC GK (cF (nC wE (nC wE (nC wE (nC wE wC))))) (KC FE (KC pG (lC 7) yC) yC) (λο ο=>rfl)) (nC (KC FE (KC pG (lC 7) yC) yC) (nC (lC 4) wC)))))
   (AD (mD (i:=10) ZI.nd rfl (Or.inl rfl) (KC FE (KC pG (lC 7) yC) yC))
   (AD (JD (CD jP (lC 10) yC (rC _)) (OC (kF (lH PySem.F.plainAttrs_list PySem.F.slot_list_append PySem.F.type_list_append BH (lC 2) (nC (aF (nC (XD bj (-a0) WC (nC (lC 0) (nC (lC 8) (nC (lC 9) (nC (aH tJ rfl T.A7 bB (nC (lC 6) wC)) wC))))) (nC (XD (iK T) (-a0) WC (nC (lC 1) (nC (lC 8) (nC (lC 9) (nC (lC 6) wC))))) wC))) wC)))
   (FC (mD (i:=11) ZI.nd rfl (Or.inl rfl) (XD aj (-a0) WC (nC (BC ND (BC LC (lC 2) (gP oP yC) (λο ο=>rfl)) yC (λο ο=>rfl)) (nC (BC ND (BC LC (lC 2) (gP oP yC) (λο ο=>rfl)) yC (λο ο=>rfl)) wC)))))) (FC (JD (CD bF (lC 10) yC (rC _)) (FC (mD (i:=11) ZI.nd rfl (Or.inl rfl) (XD aj (-a0) WC (nC (rG (lC 0) T.Ab (KL T) (-a0) WC) (nC (XD (MO T) (-a0) WC (nC (lC 1) wC)) wC))))) (FC (mD (i:=11) ZI.nd rfl (Or.inl rfl) (XD (cM T) (-a0) WC (@nC _ _ _ _ _ (lC 0) (@nC _ _ _ _ _ (lC 1) (@nC _ _ _ _ _ (lC 2) (@nC _ _ _ _ _ (lC 10) (@nC _ _ _ _ _ (KC pG (lC 7) yC) (@nC _ _ _ _ _ (lC 8) (@nC _ _ _ _ _ (lC 9) (@nC _ _ _ _ _ (lC 6) wC rfl) rfl) rfl) rfl) rfl) rfl) rfl) rfl)))))))
   (FC (sD (TM (lC 11) (dP (XD aj (-a0) WC (nC (rG (lC 0) T.Ab (pL T) (-a0) WC) (nC (BC LC (lC 1) yC (λο ο=>rfl)) wC))))))))))))),?_)
  let hz:=PySem.sizeLine_eq;let cu:=a3.cx.len;let cr:=a3.cx.ss.len;show(λD G=>∃mk:Addr,D=[↑X.z.p,↑X.pl,↑J,some (.int x),some (.int (t:Int)),some (.int (n:Int)),↑mk,none,none,none,none,none]/\K7 X H G mk,?_,λd3 bl=>?_)
  .rfl';let(az,bx,cp,cq):=a3.cx.lp.q.hf;show(_,uC.of a3.cx.lp.q.hp,_,CC (j:=0) rfl,az.length,.inl (az,uC.of bx,rfl),⋯,⋯,λbe al=>?_);show PH (λi ai D a5=>∃(v:Option V) (bs:!Bool),D=[v,some (.int x)]/\pC H a5/\a5 be>(.lst ai)/\ai=bs.map V.bl/\bs.length=i) (_,[],rfl,gE vD al,HC,rfl,rfl) (λi ai D a5 c3=>?_) (λai D cm=>?_)
   .rintro⟨v,bs,rfl,s1,am,rfl,J⟩;let c3:i < az.length:=⋯;rfl';let cw:=qB (i:Int) (b:=16) (by decide);show(⋯,am,by rw[fA];omega,qF s1 al,bs++[_],by rw[MA];rfl,by rw[jA,J];rfl)
   .rintro⟨v,bs,rfl,s1,am,rfl,J⟩;show(s1,al,bs,am,⋯)
  rintro⟨mk,rfl,s1,k1,ms,c8,ba⟩;rfl';show(λD G=>∃(l:Addr) (c:Int),D=[↑X.z.p,↑X.pl,↑J,some (.int x),some (.int (t:Int)),some (.int (n:Int)),↑mk,some (.int c),↑l,none,none,none]/\L7 n bl G l,?_,λd4 bm=>?_)
  .rfl';show(_,n,rfl,ae,λab cf bs U ag Z bt=>(cf,rfl,ag,Z,bs,bt,U))
  rintro⟨l,c,rfl,ag,au,bs,c4,b7⟩;show(λD G=>∃hh:Addr,D=[↑X.z.p,↑X.pl,↑J,some (.int x),some (.int (t:Int)),some (.int (n:Int)),↑mk,some (.int c),↑l,↑hh,none,none]/\M7 t bm G hh,?_,λd5 bn=>?_)
  .rfl';intro p cb;obtain⟨a4,cd⟩:∃a4,WF [V.str "task",V.str "bank",V.str "task",V.str "t"] (c / 32 % 4)>(.str a4):=by
    let e||e||e||e:=(by omega:c / 32 % 4=0\/c / 32 % 4=1\/c / 32 % 4=2\/c / 32 % 4=3)<;>rw[e]<;>show⟨_,rfl⟩
   show(_,cd,λcy bz=>((jD cb).1.trans (jD bz).1,a4,c / 128 % 5,HC,⋯))
  rintro⟨hh,rfl,ay,a4,b0,c2,ce⟩;show(λD G=>D=[↑X.z.p,↑X.pl,↑J,some (.int x),some (.int (t:Int)),some (.int (n:Int)),↑mk,some (.int c),↑l,↑hh,some (.int (c / 640 % 10)),none]/\pC bn G,?_,λd7 cj=>?_)
  .rfl';show vD
  rintro⟨rfl,ah⟩;let aa:=((s1.trans ag).trans ay).trans ah;let a7:=a3.same aa;show(λD G=>D=[↑X.z.p,↑X.pl,↑J,some (.int x),some (.int (t:Int)),some (.int (n:Int)),↑mk,some (.int c),↑l,↑hh,some (.int (c / 640 % 10)),some (.bl true)]/\VY A n t X J us H G,?_,λd8 ck=>?_);let aw:¬QC X mk:=λa1=>Ow.ex a3 (.inl a1) k1;let nl:¬QC X l:=λa1=>Ow.ex (a3.same s1) (.inl a1) au;let b9:=ah _ _ (ay _ _ c4);let ap:=ah _ _ (ay _ _ (ag _ _ c8));let ad:=ah _ _ c2;let b8:=aa _ _ a8;let(N,M,cg):=a3.me;let ca:([.inr a4,.inl b0,.inl (t:Int)]:!Key)∉uE X.s:=λc7=>by
   let(cz,d1,d2,z1,z2):=cg.ky _ c7;simp only[lB,Sum.inr.injEq,Sum.inl.injEq] at z1;omega
  .rfl';show CF (λο=>?_) (λο=>CF (λο=>?_) (λο=>?_))
   .show(.inl (rfl,us,uC.of b8),_,.inl (uC.of ap),λcv c5=>?_);let(a2,bq):=jD (o:=.lst (ms.map V.bl)) c5;unfold OY;show dD.fresh (a7.same a2) ae (t+1) ⋯ ⋯ (a2 _ _ b9) nl b7 (a2 _ _ ad) bq ba (a4,b0,t,rfl,.inr (Nat.lt_succ_self t)) ca (.inl rfl) (.inr rfl) (λx ab bc ο f=>f ab hh mk vD (bc _ _ (a2 _ _ ad) (QC.nt (a7.same a2) (a2 _ _ ad))) (bc _ _ (a2 _ _ ap) aw) (LA λa1=>aw (.inr (.inr (.inr a1))))) λb1 b2 b4 O cn W ao aq ar c1 U Z ο ο ο ο=>λax af=>?_;let(bu,bv,b5,bw):=dD.held (Q:=λx ab=>x=V.bl true/\VY A n t X J us H ab) (E':=λc x a5=>E c none a5) W ao (aa.trans a2) a8 av bb aq ar c1 ax af λF ci ο ο c0 a6=>(rfl,O,c0,a6,U,Z)
    show(us,bu,bv,_,uC.of HC,_,lP _ _,ax,rfl,_,VC.of b5,b1,CC (j:=0) rfl,_,uC.of HC,_,lP _ _,ax,rfl,_,VC.of b5,b2,CC (j:=1) rfl,bw)
   .let(ak,ac):=a7.cx.ss.me;show(ak,_,ac,DE ∅,?_);show a7.fold ae ⋯ λb1 b2 b4 O br W ao aq ar hd U Z=>?_;show(b1,b2,br,rfl,aq,ar,kB hd (by decide),λb3 a9=>(rfl,O,(W.same a9).up,((Go.of aa).trans ao).trans (Go.of a9) |>.gh a8 av,U,Z))
   .show(n,t,X,J,l,hh,mk,c / 640 % 10,c / 6400,us,bs,ms,_,rfl,a7,c9,ae,cc,b8,bb,av,b9,nl,b7,ap,aw,ba,ad,?_,?_,(a4,b0,rfl,ce),λb4 O W a6 U Z=>(rfl,O,W,a6.after aa,U,Z))
    .rintro rfl;rw[s1 _ _ a8] at au;cases au
    .rintro rfl;rw[a8] at k1;cases k1
  rintro⟨rfl,O,W,a6,U,Z⟩;let(ak,ac):=W.cx.ss.me;rw[U] at ac;let af:=W.cx.lp.q.hp;rw[Z] at af;let b6:=W.cx.ss;rw[U] at b6;rfl';show(ak,_,ac,DE ∅,X.z,O.s,rfl,b6,_,uC.of af,_,CC (j:=2) rfl,.int (O.s.h:Int),.int (O.p.h:Int),.leaf (.int (O.s.h:Int)),rfl,by unfold yD;show⟨rfl,rfl⟩,by unfold yD;show⟨by rw[W.cx.si.h],rfl⟩,by unfold RC;decide,λb3 a9=>q b3 O (W.same a9) (a6.same a9) U Z)
def GI (n m:Nat):St:=(List.replicate n none,List.replicate m none,0,0,0,0,List.replicate n none,List.replicate m none)
theorem WY (k:Nat):als (List.replicate k none)=[]:=by unfold als;show List.filterMap_eq_nil_iff.mpr λa j=>by rw[YA j];rfl
theorem mK {n m:Nat}:GC (GI n m)=[]:=by
 unfold GC GI;rw[eG,WY,WY];rfl
def l3 (a b c:Addr):Lb:=λx=>if x=a\/x=b\/x=c then 1 else 0
theorem eM {a b c x:Addr} (h:x=a\/x=b\/x=c):l3 a b c x=1:=iA h
theorem UO {a b c x:Addr} (h:¬(x=a\/x=b\/x=c)):l3 a b c x=0:=gA h
theorem VO {a b c x:Addr} (h:l3 a b c x≠0):x=a\/x=b\/x=c:=LA λz=>h (UO z)
abbrev fM (z:Ss) (pl fl sl:Addr) (n m:Nat):OD:=(z,GI n m,l3 pl fl sl,pl,fl,sl,GI n m)
section
variable {A:cE} {G G' G1:Hp} {z:Ss} {pl fl sl bo t:Addr} {N M n u v:Nat} {X Y X' Y':OD} {l:!(Addr×OD)} {K:W.Frag} {a:Addr} {xs:!V}
theorem AT (a7:xC A.Aa A.Ad A.Ac G z (GI N M)) (ac:∀c∈z.four,¬(c=pl\/c=fl\/c=sl)) (ne:pl≠fl/\pl≠sl/\fl≠sl) (a0:G pl>(.lst [.ref fl,.ref sl,.int 0])) (Z:G fl>(.lst (List.replicate N .non))) (a1:G sl>(.lst (List.replicate M .non))):dD A G n 0 (fM z pl fl sl N M):=by
 let O:∀{k:Nat} {r:Sh},some r∉List.replicate k (none:Option Sh):=λh=>by cases YA h
 let U:∀{i k j:Nat},(List.replicate k (none:Option Nat))[i]?≠some (some j):=λh=>by cases YA (dA h)
 let a4:∀(k:Nat),iE (List.replicate k none)=[]:=λk=>by unfold iE;show List.filterMap_eq_nil_iff.mpr λa a8=>by rw[YA a8];rfl
 let a2:Ap (GI N M):=by
  unfold Ap GI;rw[eF,a4,a4];show UB
 let a3:Tw (GI N M):=(λi j h=>absurd h U,λi j h=>absurd h U,λi j h=>absurd h U,λi j h=>absurd h U)
 let a6:Bx (GI N M):=by
  unfold Bx;rw[mK];show UB
 let a5:∀k:Nat,Paired vE (List.replicate k none) (List.replicate k none):=λk=>by
  induction k with
  |zero=>show .nil
  |succ k ab=>show .cons trivial ab
 let aa:Lv (l3 pl fl sl) G:=λc W=>by
  let rfl||rfl||rfl:=VO W
  .show⟨_,a0⟩
  .show⟨_,Z⟩
  .show⟨_,a1⟩
 let V:uE (GI N M)=[]:=by unfold uE;rw[mK];rfl
 show((a7,a2,a3,a6,λc W=>UO (ac c W),λr q=>q.elim (λh=>absurd h O) (λh=>absurd h O),⟨(a0,(_,Z,by rw[qA];show qA.symm,λi r o q J=>?_),(_,a1,by rw[qA];show qA.symm,λi r o q J=>?_),(eM (.inl rfl),eM (.inr (.inl rfl)),eM (.inr (.inr rfl))),ne,⟨by change (List.replicate N none).length=(List.replicate N none).length;rw[qA,qA],by change (List.replicate M none).length=(List.replicate M none).length;rw[qA,qA]⟩,aa),a3⟩,(a5 N,a5 M,rfl,rfl,rfl),λr q=>q.elim (λh=>absurd h O) (λh=>absurd h O)),a2,(N,M,qA,qA,?_,?_,?_,?_,[],UB,λb a9=>(VA a9).elim,?_),λc=>?_)
 .let q:(List.replicate N (none:Option Sh))[i]?>r:=q;obtain rfl:r=none:=YA (dA q);let D:=(aA.mp q).1;rw[qA] at D;show(.non,by rw[List.getElem?_replicate,iA D],rfl)
 .let q:(List.replicate M (none:Option Sh))[i]?>r:=q;let J:(List.replicate M (none:Option Nat))[i]?>o:=J;obtain rfl:r=none:=YA (dA q);obtain rfl:o=none:=YA (dA J);let D:=(aA.mp q).1;rw[qA] at D;show(.non,by rw[List.getElem?_replicate,iA D],rfl)
 .rw[V];show UB
 .rw[V];show λk F=>(VA F).elim
 .rw[mK];show λk F=>(VA F).elim
 .rw[mK];show λk F=>(VA F).elim
 .rw[V];show pA _
 .change l3 pl fl sl c<=4;unfold l3;split<;>decide
theorem QC.li (h:dD A G n u X) {c:Addr} (J:QC X c):∃o,G c>o/\∀C j fs,o=.ins C j fs->fs.length=7:=by
 let(j,F):=h.cx.ss.me;let rfl||q||(r,D,rfl||rfl)||q:=J
 .show(_,F,λC j fs e=>by injection e with _ _ e;rw[<-e];rfl)
 .let(us,g):=h.cx.ss.fours c q;show(_,g,λο ο ο e=>nomatch e)
 .let(_,_,_,U):=h.cx.ss.at D;show(_,U,λο ο ο e=>nomatch e)
 .let(_,_,O,_):=h.cx.ss.at D;show(_,O,λο ο ο e=>nomatch e)
 .let(us,g):=h.cx.lp.q.lv c q;show(_,g,λο ο ο e=>nomatch e)
theorem MG.new (q:dD A G n u X) (s:pC G G') (j:dD A G' n v Y) (O:∀c,QC Y c->G c=none):MG A G' n u v X Y:=by
 show(q.same s,j,λc D F=>?_,λc D F=>Ow.ex q F (O c D));let(o,g,W):=QC.li q D;let g':=s _ _ g;let(_,_,U,_):=j.cx.ss.fr;let(_,_,V,_):=j.cx.ss.sl;let J:∀{C dx fs},G' c>(.ins C dx fs)->fs.length=2->False:=λe a2=>by
  rw[g'] at e;have:=W _ _ _ (bA e);omega
 let a1||rfl||rfl||(r,Z,rfl):=F
 .rw[O c a1] at g;cases g
 .show J U rfl
 .show J V rfl
 .let(_,(_,a0),_):=j.cx.ss.at Z;show J a0 rfl
def LM (K:W.Frag) (G:Hp) (bo a:Addr) (xs:!V) (l:!(Addr×OD)):Prop:=(∃o,G a>o/\(∀G',G' a>o->uC K G' a xs)/\a≠bo/\∀q∈l,¬QC q.2 a)\/∀G',uC K G' a xs
theorem LM.sq (h:LM K G bo a xs l):uC K G a xs:=h.elim (λ⟨_,g,f,_⟩=>f _ g) λf=>f _
theorem LM.of (h:uC K G a xs) (F:G bo=none) (s:pC G j):LM K j bo a xs []:=by
 let(_,h,_):=FM.of h;let ab:∀{o},G a>o->a≠bo:=λh e=>by rw[e,F] at h;cases h
 let(h,_)||(p,h)||h:=h
 .show .inl (_,s _ _ h,λj h=>uC.of h,ab h,λq D=>(VA D).elim)
 .show .inl (_,s _ _ h,λj h=>.inl (.inr ⟨p,h⟩),ab h,λq D=>(VA D).elim)
 .show .inr h
structure Ls (K:W.Frag) (A:cE) (G:Hp) (n:Nat) (bo a:Addr) (xs:!V) (l:!(Addr×OD)):Prop where
 sc:LM K G bo a xs l
 b:G bo>(.lst (l.map λq=>V.ref q.1))
 on:∀q∈l,dD A G n 0 q.2/\G q.1>(.tup [.ref q.2.z.p,.ref q.2.pl])/\¬QC q.2 bo
 ap:l.Pairwise λq r=>∀c,(QC q.2 c->¬Ow r.2 c)/\(QC r.2 c->¬Ow q.2 c)
theorem Ls.same (h:Ls K A G n bo a xs l) (s:pC G G'):Ls K A G' n bo a xs l:=(h.sc.imp (λ⟨o,g,f⟩=>(o,s _ _ g,f)) id,s _ _ h.b,λq j=>(h.on q j).imp (λx=>x.same s) λx=>x.imp (s _ _) id,h.ap)
theorem Ls.add (h:Ls K A G n bo a xs l) (s:pC G G1) (Z:dD A G1 n 0 Y) (O:∀c,QC Y c->G c=none) (a4:G1 t=none):Ls K A (upd (upd G1 t (.tup [.ref Y.z.p,.ref Y.pl])) bo (.lst ((l.map λq=>V.ref q.1)++[.ref t]))) n bo a xs (l++[(t,Y)]):=by
 let(F,U):=jD (o:=.tup [V.ref Y.z.p,V.ref Y.pl]) a4;let J:=F _ _ (s _ _ h.b);let a0:¬QC Y bo:=λD=>by have:=O _ D;rw[h.b] at this;cases this
 show(h.sc.imp (λ⟨o,g,f,e,a5⟩=>(o,by rw[sC e];show F _ _ (s _ _ g),f,e,λq j=>(UA.mp j).elim (a5 q) λD=>by rw[nA.mp D];show λD=>by rw[O _ D] at g;cases g)) id,by rw[HC,MA];rfl,λq j=>?_,List.pairwise_append.mpr (h.ap,List.pairwise_singleton .., λq j r a3=>?_))
 .let j||j:=UA.mp j
  .let(a6,a1,a2):=h.on q j;show(((a6.same s).same F).app J a2,by rw[sC (HD (F _ _ (s _ _ a1)) J λD=>nomatch D)];show F _ _ (s _ _ a1),a2)
  .cases nA.mp j;show((Z.same F).app J a0,by rw[sC (HD U J λD=>nomatch D)];show U,a0)
 .cases nA.mp a3;let W:=MG.new (h.on q j).1 s Z O;show λc=>⟨W.d c,W.d' c⟩
theorem Ls.go (h:Ls K A G n bo a xs (l++[(t,Y)])) (V:dD A G' n 0 Y') (g:Go Y Y' G G') (a2:Y'.z=Y.z) (a3:Y'.pl=Y.pl):Ls K A G' n bo a xs (l++[(t,Y')]):=by
 let(a0,a9,a1):=h.on (t,Y) (DA _ (nA.mpr rfl));let(a5,aa,a6):=List.pairwise_append.mp h.ap;let F:∀q∈l,MG A G' n 0 0 Y' q.2:=λq j=>by
  let p:=a6 q j (t,Y) (nA.mpr rfl);show MG.go (a0,(h.on q (xB _ j)).1,λc=>(p c).2,λc=>(p c).1) V g
 let Z:∀c us,G c>(.tup us)->G' c>(.tup us):=λc us W=>g.keep _ _ W (QC.nt a0 W);let J:=h.b;show(h.sc.imp (λ⟨o,U,f,e,O⟩=>(o,g.keep _ _ U (O (t,Y) (DA _ (nA.mpr rfl))),f,e,λq j=>(UA.mp j).elim (λD=>O q (xB _ D)) λD=>by rw[nA.mp D];show λD=>(g.hd _ D).elim (O (t,Y) (DA _ (nA.mpr rfl))) λe=>by rw[U] at e;cases e)) id,?_,λq j=>?_,List.pairwise_append.mpr (a5,List.pairwise_singleton .., λq j r a4=>?_))
 .rw[MA] at J ⊢;show g.keep _ _ J a1
 .let j||j:=UA.mp j
  .let(ab,a7,a8):=h.on q (xB _ j);show((F q j).y,Z _ _ a7,a8)
  .cases nA.mp j;show(V,by change G' t>(.tup [.ref Y'.z.p,.ref Y'.pl]);rw[a2,a3];show Z _ _ a9,λD=>(g.hd _ D).elim a1 λe=>by rw[J] at e;cases e)
 .cases nA.mp a4;show λc=>⟨(F q j).d' c,(F q j).d c⟩
structure Fl (Y:OD) (N M n j:Nat) (c:Int):Prop where
 lv:fD Y.s=j
 bx:∀q∈GC Y.s,∃y:Nat,y < j/\q.b=List.replicate n ((c+y * y) % 1000000000000000000000000000000)
 ky:∀k∈uE Y.s,∃y:Nat,y < j/\k=[.inr (Str.ofString "task"),.inl (100+(y:Int)),.inl (y:Int)]
 fr:Y.s.fr.length=N
 sr:Y.s.sr.length=M
theorem O7 {c:Int}:Fl (fM z pl fl sl N M) N M n 0 c:=(by rw[yT,mK];rfl,by rw[mK];show λk j=>(VA j).elim,by unfold uE;rw[mK];show λk j=>(VA j).elim,qA,qA)
theorem Fl.ne {j:Nat} {c:Int} (h:Fl Y N M n j c) (Z:1<=n) (W:j<=128):∀q∈GC Y.s,q.b≠List.replicate n ((c+(j:Int) * j) % 1000000000000000000000000000000):=λq J e=>by
 let(y,D,F):=h.bx q J;rw[F] at e;obtain⟨m,rfl⟩:∃m,n=m+1:=⟨n - 1,⋯⟩
 rw[BB,BB] at e;let e:=(List.cons.inj e).1;let O:(y:Int) * y < (j:Int) * j:=by
  have:=Nat.mul_lt_mul'' D D
  exact_mod_cast this
 let U:(j:Int) * j<=128 * 128:=Int.mul_le_mul ⋯ ⋯ ⋯ ⋯;let V:0<=(y:Int) * y:=Int.mul_nonneg ⋯ ⋯;omega
theorem Fl.nk {j:Nat} {c:Int} (h:Fl Y N M n j c):([.inr (Str.ofString "task"),.inl (100+(j:Int)),.inl (j:Int)]:!Key)∉uE Y.s:=λq=>by
 let(y,D,e):=h.ky _ q;simp only[lB,Sum.inl.injEq] at e;omega
theorem Fl.up {j:Nat} {c:Int} (h:Fl Y N M n j c) (O:fD Y'.s=fD Y.s+1) (U:∀q∈GC Y'.s,q∈GC Y.s\/q.b=List.replicate n ((c+(j:Int) * j) % 1000000000000000000000000000000)) (V:∀J∈uE Y'.s,J∈uE Y.s\/J=[.inr (Str.ofString "task"),.inl (100+(j:Int)),.inl (j:Int)]) (F:Y'.s.fr.length=Y.s.fr.length/\Y'.s.sr.length=Y.s.sr.length):Fl Y' N M n (j+1) c:=
 (by rw[O,h.lv],λq Z=>(U q Z).elim (λD=>let ⟨y,a,b⟩:=h.bx q D;(y,⋯,b)) λD=>(j,⋯,D),λk W=>(V k W).elim (λD=>let ⟨y,a,b⟩:=h.ky k D;(y,⋯,b)) λD=>(j,⋯,D),F.1.trans h.fr,F.2.trans h.sr)
end
section
variable {A:cE} {H H':Hp} {n t t' u:Nat} {X Y X':OD} {hl:Addr} {us:!V}
structure Wd (A:cE) (H:Hp) (n t u:Nat) (X Y:OD) (hl:Addr) (us:!V):Prop where
 du:MG A H n t u X Y
 hh:H hl>(.lst us)
 nx:¬QC X hl
 ny:¬QC Y hl
 he:∀v∈us,∃p x y a,v=.ref p/\kK a/\H p>(.tup [x,y])/\xG (λc=>QC X c\/QC Y c\/c=hl) H x a/\xG (λc=>QC X c\/QC Y c\/c=hl) H y a
def sH (X Y:OD) (hl:Addr) (H:Hp) (c:Addr) (o:HO):Prop:=H c>o/\¬QC X c/\¬QC Y c/\c≠hl
theorem sH.swap {c:Addr} {o:HO} (h:sH X Y hl H c o):sH Y X hl H c o:=(h.1,h.2.2.1,h.2.1,h.2.2.2)
theorem sH.same {c:Addr} {o:HO} (h:sH X Y hl H c o) (s:pC H H'):sH X Y hl H' c o:=⟨s _ _ h.1,h.2⟩
theorem sH.go {c:Addr} {o:HO} (k:sH X Y hl H c o) (g:Gh hl us X X' H H'):sH X' Y hl H' c o:=(g.keep _ _ k.1 k.2.1 k.2.2.2,λz=>(g.hd _ z).elim k.2.1 (λe=>by rw[k.1] at e;cases e),k.2.2)
theorem Wd.swap (h:Wd A H n t u X Y hl us):Wd A H n u t Y X hl us:=by
 let e:(λc=>QC X c\/QC Y c\/c=hl)=λc=>QC Y c\/QC X c\/c=hl:=funext λc=>propext ⟨λj=>j.elim (λj=>.inr (.inl j)) λj=>j.imp id .inr,λj=>j.elim (λj=>.inr (.inl j)) λj=>j.imp id .inr⟩;let q:=h.he;rw[e] at q;show(h.du.swap,h.hh,h.ny,h.nx,q)
theorem Wd.same (h:Wd A H n t u X Y hl us) (s:pC H H'):Wd A H' n t u X Y hl us:=(h.du.same s,s _ _ h.hh,h.nx,h.ny,λv O=>by
 let(p,x,y,a,j,q,D,F,J):=h.he v O;show(p,x,y,a,j,q,s _ _ D,F.keep (λο ο h=>s _ _ h) λο ο h n=>⟨s _ _ h,n⟩,J.keep (λο ο h=>s _ _ h) λο ο h n=>⟨s _ _ h,n⟩))
theorem Wd.le (h:Wd A H n t u X Y hl us) {t' j:Nat} (q:t<=t') (D:u<=j):Wd A H n t' j X Y hl us:=((h.du.x.le q,h.du.y.le D,h.du.d,h.du.d'),h.hh,h.nx,h.ny,h.he)
theorem Wd.go (h:Wd A H n t u X Y hl us) (a7:dD A H' n t' X') (g:Gh hl us X X' H H'):∃us',us'.length<=us.length+1/\Wd A H' n t' u X' Y hl us':=by
 let a3:=h.du.x;let J:=h.du.y;let a4:∀c o,H c>o->(Ow Y c\/TF o)->H' c>o:=λc o q w=>g.keep c o q (λhd=>by
  let w||(us,rfl||(p,rfl)):=w
  .show h.du.d c hd w
  .show QC.nt a3 q hd
  .show QC.nz a3 q hd) λe=>by
   subst e;let w||(us,rfl||(p,rfl)):=w
   .show Ow.nl J h.hh h.ny w
   .rw[h.hh] at q;cases q
   .rw[h.hh] at q;cases q
 let a1:MG A H' n t' u X' Y:=(a7,J.stay a4 g.dm,λc q w=>(g.hd c q).elim (λj=>h.du.d c j w) (Ow.ex J w),λc q w=>(g.ow c w).elim (λj=>h.du.d' c q j) (Ow.ex J (.inl q)))
 let nx:¬QC X' hl:=λj=>(g.hd _ j).elim h.nx λe=>by rw[h.hh] at e;cases e
 let a0:∀c us,H c>(.tup us)->H' c>(.tup us):=λc us q=>a4 c _ q (.inr ⟨us,.inl rfl⟩);let a5:∀v∈us,∃p x y a,v=.ref p/\kK a/\H' p>(.tup [x,y])/\xG (λc=>QC X' c\/QC Y c\/c=hl) H' x a/\xG (λc=>QC X' c\/QC Y c\/c=hl) H' y a:=λv D=>by
  let(p,x,y,a,U,V,a2,W,Z):=h.he v D;let O:∀c us,H c>(.lst us)->¬(QC X c\/QC Y c\/c=hl)->H' c>(.lst us)/\¬(QC X' c\/QC Y c\/c=hl):=λc us q F=>⟨g.keep _ _ q (λj=>F (.inl j)) λj=>F (.inr (.inr j)),λj=>j.elim (λj=>(g.hd _ j).elim (λj=>F (.inl j)) λe=>by rw[q] at e;cases e) λj=>F (.inr j)⟩
  show(p,x,y,a,U,V,a0 _ _ a2,W.keep a0 O,Z.keep a0 O)
 let e||(p,x,y,a,U,V,a2,W,Z,a6):=g.he
 .show(us,⋯,a1,e,nx,h.ny,a5)
 .let O:∀c us,H' c>(.lst us)->¬(QC X' c\/H c≠none)->H' c>(.lst us)/\¬(QC X' c\/QC Y c\/c=hl):=λc us q F=>⟨q,λj=>j.elim (λj=>F (.inl j)) λj=>F (.inr (j.elim (λj=>Ow.ex J (.inl j)) λj=>by rw[j,h.hh];show λj=>nomatch j))⟩
  show(us++[.ref p],by rw[jA];show pA _,a1,V,nx,h.ny,λv D=>?_);let D||D:=UA.mp D
  .show a5 v D
  .show(p,x,y,a,nA.mp D,U,W,Z.keep (λο ο h=>h) O,a6.keep (λο ο h=>h) O)
end
section
variable {A:cE} {G G':Hp} {n t t' u:Nat} {X Y X':OD} {hl bo t1 t2 sc x1 p1 x2 p2:Addr} {us vs:!V}
structure Wf (G:Hp) (X Y:OD) (hl bo t1 t2 sc:Addr) (vs:!V) (x1 p1 x2 p2:Addr):Prop where
 kb:sH X Y hl G bo (.lst [.ref t1,.ref t2])
 k1:sH X Y hl G t1 (.tup [.ref x1,.ref p1])
 k2:sH X Y hl G t2 (.tup [.ref x2,.ref p2])
 ks:sH X Y hl G sc (.lst vs)
theorem Wf.swap (h:Wf G X Y hl bo t1 t2 sc vs x1 p1 x2 p2):Wf G Y X hl bo t1 t2 sc vs x1 p1 x2 p2:=(h.kb.swap,h.k1.swap,h.k2.swap,h.ks.swap)
theorem Wf.same (h:Wf G X Y hl bo t1 t2 sc vs x1 p1 x2 p2) (s:pC G G'):Wf G' X Y hl bo t1 t2 sc vs x1 p1 x2 p2:=(h.kb.same s,h.k1.same s,h.k2.same s,h.ks.same s)
theorem Wf.go (h:Wf G X Y hl bo t1 t2 sc vs x1 p1 x2 p2) (g:Gh hl us X X' G G'):Wf G' X' Y hl bo t1 t2 sc vs x1 p1 x2 p2:=(h.kb.go g,h.k1.go g,h.k2.go g,h.ks.go g)
def Wi (A:cE) (G:Hp) (n i j:Nat) (hl bo t1 t2 sc:Addr) (vs:!V) (x1 p1 x2 p2:Addr):Prop:=∃X Y us,Wd A G n (if 1<=j then i+1 else i) (if 2<=j then i+1 else i) X Y hl us/\us.length<=2 * i+j/\X.z.p=x1/\X.pl=p1/\Y.z.p=x2/\Y.pl=p2/\Wf G X Y hl bo t1 t2 sc vs x1 p1 x2 p2
theorem Wi.same {i j:Nat} (h:Wi A G n i j hl bo t1 t2 sc vs x1 p1 x2 p2) (s:pC G G'):Wi A G' n i j hl bo t1 t2 sc vs x1 p1 x2 p2:=by
 let(X,Y,us,a,b,c,d,e,f,g):=h;show(X,Y,us,a.same s,b,c,d,e,f,g.same s)
theorem Wi.pick {i j:Nat} (h:Wi A G n i j hl bo t1 t2 sc vs x1 p1 x2 p2) (a3:j < 2):∃(S a1:OD) (u:Nat) (us:!V) (t:Addr),Wd A G n i u S a1 hl us/\us.length<=2 * i+j/\G bo>(.lst [.ref t1,.ref t2])/\WF [V.ref t1,V.ref t2] (j:Int)=↑t/\G t>(.tup [.ref S.z.p,.ref S.pl])/\(Wi A G n i (j+1) hl bo t1 t2 sc vs x1 p1 x2 p2)/\∀q D,dD A D n (i+1) q->Gh hl us S q G D->q.z=S.z->q.pl=S.pl->Wi A D n i (j+1) hl bo t1 t2 sc vs x1 p1 x2 p2:=by
 let(X,F,us,a,b,c,J,e,f,g):=h;let rfl||rfl:=(by omega:j=0\/j=1)
 .show(X,F,i,us,t1,a,b,g.kb.1,rfl,by rw[c,J];show g.k1.1,(X,F,us,a.le (by simp) (by simp),⋯,c,J,e,f,g),λq D Z O U W=>?_);let(us',a2,a0):=a.go Z O;show(q,F,us',a0,⋯,by rw[U,c],by rw[W,J],e,f,g.go O)
 .show(F,X,i+1,us,t2,a.swap,b,g.kb.1,rfl,by rw[e,f];show g.k2.1,(X,F,us,a.le (by simp) (by simp),⋯,c,J,e,f,g),λq D Z O U W=>?_);let(us',a2,a0):=a.swap.go Z O;show(X,q,us',a0.swap,⋯,c,J,by rw[U,e],by rw[W,f],(g.swap.go O).swap)
end
theorem XY {H:Hp} {D:Addr} {Q:Hp->Prop} {N:Nat} (Z:N<=64) (U:H D=none) (q:∀j,pC H j->j D>(.lst ((List.replicate N false).map V.bl))->Q j):fH (BF 0) tYes (tC (V.bl false)) EG.mk (LI 0 (N:Int).toNat) [none] D Q H:=by
 show PH (λi J O j=>∃v,O=[v]/\pC H j/\j D>(.lst J)/\J=List.replicate i (.bl false)) (_,rfl,gE vD U,HC,rfl) (λi J O j a0=>?_) (λJ O W=>?_)
 .rintro⟨v,rfl,s1,F,rfl⟩;rfl';show(F,by rw[qA];omega,qF s1 U,by rw[<-List.replicate_succ'];rfl)
 .rintro⟨v,rfl,s1,F,rfl⟩;rw[gB] at F;show q W s1 (by rw[List.map_replicate];show F)
def P7 (H G:Hp) (l:Addr) (bs:!Int):Prop:=pC H G/\H l=none/\G l>(.lst (bs.map V.int))
def Q7 (H G:Hp) (pl:Addr) (N M:Nat):Prop:=∃fl sl,pC H G/\(H pl=none/\H fl=none/\H sl=none)/\(pl≠fl/\pl≠sl/\fl≠sl)/\G pl>(.lst [.ref fl,.ref sl,.int 0])/\G fl>(.lst (List.replicate N .non))/\G sl>(.lst (List.replicate M .non))
def CT (K:W.Frag) (A:cE) (G:Hp) (n:Nat) (bo a:Addr) (xs:!V) (l:!(Addr×OD)) (N M j:Nat) (c:Int) (pl:Addr):Prop:=∃t Y,Ls K A G n bo a xs (l++[(t,Y)])/\Fl Y N M n j c/\Y.pl=pl
theorem Wi.next {A:cE} {G:Hp} {n i:Nat} {q j O U J:Addr} {vs:!V} {W D Z F:Addr} (h:Wi A G n i 2 q j O U J vs W D Z F):Wi A G n (i+1) 0 q j O U J vs W D Z F:=by
 let(X,a0,us,a,b,r):=h;show(X,a0,us,a.le (by simp) (by simp),⋯,r)
theorem Wi.sq {K:W.Frag} {A:cE} {G:Hp} {n i j:Nat} {F D U Z q:Addr} {vs:!V} {a0 J a1 O:Addr} (h:Wi A G n i j F D U Z q vs a0 J a1 O):uC K G q vs:=by
 let(_,_,_,_,_,_,_,_,_,w):=h;show uC.of w.ks.1
theorem R7 {ns:!Int} (D:ns.length<=63):∃ms:!Int,yH (ns.map V.int) (some 3) (some 63)=ms.map V.int/\ms.length<=60:=by
 unfold yH;rw[<-List.map_drop,<-List.map_take];show(_,rfl,?_);let j:HT.qG (ns.map V.int).length 0 (some 3)=min 3 (ns.map V.int).length:=HT.aW ..;let q:HT.qG (ns.map V.int).length (ns.map V.int).length (some 63)=min 63 (ns.map V.int).length:=HT.aW ..;rw[dB,List.length_drop,j,q,fA];omega
def T7 (A:cE) (G:Hp) (n:Nat) (hl bo t1 t2 x1 p1 x2 p2:Addr):Prop:=∃i sc vs,i<=60/\Wi A G n i 0 hl bo t1 t2 sc vs x1 p1 x2 p2
def nK (K:W.Frag):Sp:=λvs H Q ο=>∃(a:Addr) (ns:!Int),vs=[.ref a]/\uC K H a (ns.map V.int)/\ns.length<=63/\∀H',Q (.bl true) H'
theorem U7 (T:LD K mg A):mG P w K mg base "law" wP ["_law_script","_law_size_here","_law_both","_law_k","_law_cell_here","_law_frames","_law_slots","_law_plain","_law_j","_law_sheet_here","_law_held","_law_digits","_law_number_here","_law_found","_law_due","_law_sheets","_law_many"] 14 (nK K):=by
 intro f gk gd h3 s H vs Q E O ab;let(a,ns,rfl,be,fm,g5):=ab;let bh:=@fL P w K mg base A T a ns;let d8:=@xP P w K mg base A T 5;let hz:=PySem.sizeLine_eq;show(_,(OC (mD (i:=1) LF.nd rfl (Or.inl rfl) (KC nF yC (KC FE (XD bh (-O) WC (nC (lC 0) (nC yC wC))) yC)))
   (AD (JD (CD bF (KC FE (KC pG (XD bh (-O) WC (nC (lC 0) (nC yC wC))) yC) yC) yC (rC _)) (FC (mD (i:=1) LF.nd rfl (Or.inl rfl) yC)) KD)
   (AD (mD (i:=2) LF.nd rfl (Or.inl rfl) (cF wC))
   (AD (DG RA rfl (iG rfl T.Aq (nC yC wC)) (jE (i:=3) LF.nd rfl (Or.inl rfl)) (OC (mD (i:=4) LF.nd rfl (Or.inr rfl) (XD bh (-O) WC (nC (lC 0) (nC (lC 3) wC))))
   (OC (mD (i:=5) LF.nd rfl (Or.inl rfl) (XD (RO T) (-O) WC (nC (lC 4) (nC yC (nC yC wC)))))
   (AD (mD (i:=6) LF.nd rfl (Or.inl rfl) (XD (RO T) (-O) WC (nC (KC pG (lC 4) yC) (nC yC (nC yC wC)))))
   (AD (mD (i:=7) LF.nd rfl (Or.inl rfl) (cF (nC (FH rfl (iG rfl T.Aq (nC (lC 5) wC)) (x:="_law_j") (fs:=[]) (ix:=[]) rfl rfl (λο ο ο ο ο ο=>(jE (i:=0) (show (["_law_j"]:!Str).Nodup by decide+kernel) rfl (Or.inl rfl))) (λο ο ο ο ο ο=>FG) (λο ο ο ο ο ο=>BD)) (nC (FH rfl (iG rfl T.Aq (nC (lC 6) wC)) (x:="_law_j") (fs:=[]) (ix:=[]) rfl rfl (λο ο ο ο ο ο=>(jE (i:=0) (show (["_law_j"]:!Str).Nodup by decide+kernel) rfl (Or.inl rfl))) (λο ο ο ο ο ο=>FG) (λο ο ο ο ο ο=>BD)) (nC yC wC)))))
   (AD (kF (lH PySem.F.plainAttrs_list PySem.F.slot_list_append PySem.F.type_list_append BH (lC 2) (nC (aF (nC (nP (bO T) (-O) WC (nC (lC 5) (nC (lC 6) (nC (lC 1) wC)))) (nC (lC 7) wC))) wC)))
   (FC (JD (CD bF (KC FE (KC pG (XD bh (-O) WC (nC (lC 0) (nC yC wC))) yC) yC) yC (rC _)) (FC (DG RA rfl (iG rfl T.Aq (nC (KC nF (lC 5) (lC 6)) wC)) (jE (i:=8) LF.nd rfl (Or.inr rfl)) (AD (oM (i:=9) LF.nd rfl rfl rfl (iG rfl T.Aq (nC (lC 1) wC)) (x:="_law_b") (fs:=["_law_cell_here","_law_j"]) (ix:=[4,8]) rfl rfl (λο ο ο ο ο ο=>(jE (i:=0) (show (["_law_b","_law_cell_here","_law_j"]:!Str).Nodup by decide+kernel) rfl (Or.inl rfl))) (λο ο ο ο ο ο=>FG) (λο ο ο ο ο ο=>(KC FE (KC nF (lC 1) (KC VH (lC 2) (lC 2))) (KC yQ yC yC))))
   (OC (kF (pF (BC ND (BC LC (lC 2) (lC 3) (λο ο=>rfl)) yC (λο ο=>rfl)) T.Ab (dY T) (-O) WC (nC (lC 9) (nC (aF (nC wE (nC (KC nF yC (lC 8)) (nC (lC 8) wC)))) (nC (FH rfl (iG rfl T.Aq (nC (lC 5) wC)) (x:="_law_b") (fs:=[]) (ix:=[]) rfl rfl (λο ο ο ο ο ο=>(jE (i:=0) (show (["_law_b"]:!Str).Nodup by decide+kernel) rfl (Or.inl rfl))) (λο ο ο ο ο ο=>FG) (λο ο ο ο ο ο=>NG)) wC)))))
   (FC (kF (XD (iK T) (-O) WC (nC (lC 7) (nC (lC 9) (nC (aF (nC wE (nC (KC nF yC (lC 8)) (nC (lC 8) wC)))) (nC (FH rfl (iG rfl T.Aq (nC (lC 5) wC)) (x:="_law_b") (fs:=[]) (ix:=[]) rfl rfl (λο ο ο ο ο ο=>(jE (i:=0) (show (["_law_b"]:!Str).Nodup by decide+kernel) rfl (Or.inl rfl))) (λο ο ο ο ο ο=>FG) (λο ο ο ο ο ο=>NG)) wC))))))))))) KD))))))))
   (OC (mD (i:=10) LF.nd rfl (Or.inl rfl) (cF wC))
   (AD (mD (i:=11) LF.nd rfl (Or.inl rfl) (xH bF (KC FE (KC pG (XD bh (-O) WC (nC (lC 0) (nC yC wC))) yC) yC) yC (rC _)))
   (AD (DG RA rfl (WQ rfl T.Bd (nC (FZ MZ (lC 0) (bW yC) (bW yC)) wC)) (aN (n:=2) rfl (zI (jE (i:=3) LF.nd rfl (Or.inl rfl)) (zI (jE (i:=4) LF.nd rfl (Or.inr rfl)) YM))) (FC (DG RA rfl (iG rfl T.Aq (nC yC wC)) (jE (i:=8) LF.nd rfl (Or.inr rfl)) (FC (JD (PW.pt (SM (CD bF (KC FE (lC 4) yC) (lC 8) (rC _)) (RM (CD bF (KC FE (lC 4) yC) yC (rC _))))) (OC (mD (i:=12) LF.nd rfl (Or.inl rfl) (XD (OO T) (-O) WC (nC (lC 11) (nC (KC nF (KC pG (lC 4) yC) (lC 8)) (nC (lC 3) wC)))))
   (FC (JD (yI (gG (XD (dM T) (-O) WC (@nC _ _ _ _ _ (BC ND (BC LC (lC 2) (lC 8) (λο ο=>rfl)) yC (λο ο=>rfl)) (@nC _ _ _ _ _ (BC ND (BC LC (lC 2) (lC 8) (λο ο=>rfl)) yC (λο ο=>rfl)) (@nC _ _ _ _ _ (lC 10) (@nC _ _ _ _ _ (lC 12) (@nC _ _ _ _ _ (lC 3) (@nC _ _ _ _ _ (lC 1) wC rfl) rfl) rfl) rfl) rfl) rfl)))) (FC (sD NG)) KD))) KD)))))
   (AD (DG RA rfl (vH (lC 10)) (aN (n:=2) rfl (zI (jE (i:=13) LF.nd rfl (Or.inl rfl)) (zI (jE (i:=14) LF.nd rfl (Or.inl rfl)) YM))) (FC (JD (yI (gG (XD d8 (-O) WC (nC (lC 13) (nC (lC 14) wC))))) (FC (sD NG)) KD)))
   (OC (DG RA rfl (vH (lC 2)) (aN (n:=2) rfl (zI (jE (i:=15) LF.nd rfl (Or.inl rfl)) (zI (jE (i:=7) LF.nd rfl (Or.inl rfl)) YM))) (OC (JD (PW.pt (SM (yI (gG (XD (DO T) (-O) WC (nC (rG (lC 15) T.Ab (eT T) (-O) WC) (nC (BC LC (lC 7) yC (λο ο=>rfl)) wC))))) (RM (yI (gG (XD (DO T) (-O) WC (nC (rG (lC 15) T.Ab (xO T) (-O) WC) (nC (BC LC (lC 7) yC (λο ο=>rfl)) wC)))))))) (FC (sD NG)) KD)
   (OC (mD (i:=16) LF.nd rfl (Or.inl rfl) (KC nF (MD BE rfl T.Aj PySem.boot_len (nC (XD (VP T) (-O) WC (nC (lC 7) (nC wE wC))) wC)) (MD BE rfl T.Aj PySem.boot_len (nC (XD (VP T) (-O) WC (nC (lC 7) (nC wE wC))) wC))))
   (FC (JD (yI (gG (XD d8 (-O) WC (nC (rG (lC 15) T.Ab (RX T) (-O) WC) (nC (lC 16) wC))))) (FC (sD NG)) KD)))))
   (FC (sD NG))))))))))),?_)
 rfl';show(2,rfl,be,⋯,_,rfl,?_);generalize ns.getD (Int.toNat 2) 0=y0;show(λD G=>∃n:Nat,D=[↑a,some (.int (n:Int)),none,none,none,none,none,none,none,none,none,none,none,none,none,none,none]/\G=H/\1<=n/\n<=64,?_,λh4 dg=>?_)
 .rfl';show(2,rfl,be,⋯,_,rfl,?_);generalize ns.getD (Int.toNat 2) 0=ak;show CF (λο=>(16,rfl,rfl,⋯,⋯)) (λο=>((1+y0 % 4).toNat,⋯,rfl,⋯,⋯))
 rintro⟨n,rfl,rfl,e0,e1⟩;show(λD G=>∃J:Addr,D=[↑a,some (.int (n:Int)),↑J,none,none,none,none,none,none,none,none,none,none,none,none,none,none]/\pC dg G/\dg J=none/\G J>(.lst []),?_,λh5 ej=>?_)
 .rfl';show λp ap=>⟨(jD ap).1,ap⟩
 rintro⟨J,rfl,s1,e5,dp⟩;let eq:Ls K A ej n J a (ns.map V.int) []:=(LM.of be e5 s1,dp,λq fq=>(VA fq).elim,.nil)
 clear be s1 e5 dp;show(λD G=>∃b5 b6 a6 a7 a8 a3 Z l,D=[↑a,some (.int (n:Int)),↑J,b5,b6,a6,a7,a8,a3,Z,none,none,none,none,none,none,none]/\Ls K A G n J a (ns.map V.int) l/\l.length=2,?_,λh6 az=>?_)
 .rfl';show CJ (λk D G=>∃b5 b6 a6 a7 a8 a3 Z l,D=[↑a,some (.int (n:Int)),↑J,b5,b6,a6,a7,a8,a3,Z,none,none,none,none,none,none,none]/\Ls K A G n J a (ns.map V.int) l/\l.length=k) (_,_,_,_,_,_,_,[],rfl,eq,rfl) (λk D G gn=>?_) (λD G=>?_);rotate_left
  .rintro⟨b5,b6,a6,a7,a8,a3,Z,l,rfl,W,bq⟩;show(_,_,_,_,_,_,_,rfl,l,W,bq)
  rintro⟨b5,b6,a6,a7,a8,a3,Z,l,rfl,W,bq⟩;rw[pB];rfl';show(k,rfl,W.sc.sq,⋯,?_);generalize ns.getD (Int.toNat k) 0=a0;show(a0,1,5,rfl,⋯,⋯,⋯,⋯,λea em gu gv e8=>?_);obtain⟨N,rfl⟩:∃N:Nat,ea=N:=⟨ea.toNat,⋯⟩
  let W:=W.same e8;show(λD G=>∃M:Nat,D=[↑a,some (.int (n:Int)),↑J,some (.int (k:Int)),some (.int a0),some (.int (N:Int)),some (.int (M:Int)),a8,a3,Z,none,none,none,none,none,none,none]/\M<=64/\pC em G,?_,λga bx=>?_)
  .rfl';show(_,0,6,rfl,⋯,⋯,⋯,⋯,λav bj gw gx s1=>?_);obtain⟨M,rfl⟩:∃M:Nat,av=M:=⟨av.toNat,⋯⟩
   show(M,rfl,⋯,s1)
  rintro⟨M,rfl,gm,aj⟩;let W:=W.same aj;clear e8 aj;show(λD G=>∃pl:Addr,D=[↑a,some (.int (n:Int)),↑J,some (.int (k:Int)),some (.int a0),some (.int (N:Int)),some (.int (M:Int)),↑pl,a3,Z,none,none,none,none,none,none,none]/\Q7 bx G pl N M,?_,λgb bz=>?_)
  .rfl';show(⋯,⋯,λb1 cx=>?_);show PH (λi a4 D U=>∃(v:Option V),D=[v]/\pC bx U/\U b1>(.lst a4)/\a4=List.replicate i V.non) (_,rfl,gE vD cx,HC,rfl) (λi a4 D U b3=>?_) (λa4 D cg=>?_)
   .rintro⟨v,rfl,s1,ad,rfl⟩;rfl';show(ad,by rw[qA];omega,qF s1 cx,by rw[<-List.replicate_succ'];rfl)
   rintro⟨v,rfl,s1,ad,rfl⟩;rw[gB] at ad;show(⋯,⋯,λb4 c5=>?_);show PH (λi a4 D U=>∃(v:Option V),D=[v]/\pC cg U/\U b4>(.lst a4)/\a4=List.replicate i V.non) (_,rfl,gE vD c5,HC,rfl) (λi a4 D U b3=>?_) (λa4 D en=>?_)
   .rintro⟨v,rfl,s1,ad,rfl⟩;rfl';show(ad,by rw[qA];omega,qF s1 c5,by rw[<-List.replicate_succ'];rfl)
   rintro⟨v,rfl,ae,cu,rfl⟩;rw[gB] at cu;intro pl bd;let(ci,c1):=jD (o:=.lst [V.ref b1,V.ref b4,V.int 0]) bd;let dq:=ae _ _ ad;let ai:pl≠b1:=λe=>by rw[e,dq] at bd;cases bd
   let ac:pl≠b4:=λe=>by rw[e,cu] at bd;cases bd
   let c3:b1≠b4:=mE ad c5;let e9:=s1.trans ae;show(b1,b4,e9.trans ci,(xD e9 bd,cx,xD s1 c5),(ai,ac,c3),c1,ci _ _ dq,ci _ _ cu)
  rintro⟨pl,rfl,b1,b4,ax,⟨e6,nf,e7⟩,ne,cq,co,cr⟩;show(λD G=>D=[↑a,some (.int (n:Int)),↑J,some (.int (k:Int)),some (.int a0),some (.int (N:Int)),some (.int (M:Int)),↑pl,a3,Z,none,none,none,none,none,none,none]/\CT K A G n J a (ns.map V.int) l N M 0 a0 pl,?_,λgc c0=>?_)
  .rfl';let am:=W.same ax;show⟨.inl (rfl,_,uC.of am.b),λx b0 bt fa fn=>?_⟩;let d2:=pP (o:=.ins A.Aa b0 []) bt fa fn;show(x,b0,N,M,n,rfl,HC,⋯,⋯,⋯,λU y d1 ai ac fx=>⟨rfl,λp ap=>?_⟩);subst ai;let bu:pC bz U:=λc o h=>fx c o (d2 c o h) (λab=>mE h bt (nA.mp ab));let g2:dD A U n 0 (fM y pl b1 b4 N M):=AT d1 (λc b2 e=>by
    let bb:=xD d2 (ac c b2);let rfl||rfl||rfl:=e
    .rw[cq] at bb;cases bb
    .rw[co] at bb;cases bb
    .rw[cr] at bb;cases bb) ne (bu _ _ cq) (bu _ _ co) (bu _ _ cr)
   let g8:=ax.trans bu;let(c2,a0):=jD (o:=.tup [V.ref y.p,V.ref pl]) ap;let ah:=W.add g8 g2 (λc b2=>?_) ap
   .show(_,c2 _ _ (bu _ _ am.b),by rw[fA];omega,p,_,ah,O7,rfl)
   .let rfl||b2||(r,O,_)||b2:=b2
    .show xD ax bt
    .show xD ax (xD d2 (ac c b2))
    .have:=mK (n:=N) (m:=M);rw[this] at O;cases O
    .let rfl||rfl||rfl:=VO b2
     .show e6
     .show nf
     .show e7
  rintro⟨rfl,t,F,ah,ag,c4⟩;clear W ax e6 nf e7 ne cq co cr;let e4:(l++[(t,F)]).length=k+1:=by rw[jA,bq];rfl
  rfl';show(2,rfl,ah.sc.sq,⋯,_,rfl,?_);generalize ns.getD (Int.toNat 2) 0=y5;show CF (λο=>(⋯,⋯,?_)) (λο=>?_);rotate_left
  .show(_,ah,e4)
  show CJ (λj D G=>∃a3 Z,D=[↑a,some (.int (n:Int)),↑J,some (.int (k:Int)),some (.int a0),some (.int (N:Int)),some (.int (M:Int)),↑pl,a3,Z,none,none,none,none,none,none,none]/\CT K A G n J a (ns.map V.int) l N M j a0 pl) (_,_,rfl,t,F,ah,ag,c4) (λj D G a1=>?_) (λD G=>?_);rotate_left
  .rintro⟨a3,Z,rfl,t,F,W,_⟩;show(_,_,_,_,_,_,_,rfl,_,W,by rw[jA,bq];rfl)
  clear ah ag c4 e4;rintro⟨a3,Z,rfl,t,F,ah,ag,c4⟩;let a1:j < N+M:=⋯;rw[pB];obtain⟨ak,bg,d7⟩:dD A G n 0 F/\G t>(.tup [.ref F.z.p,.ref F.pl])/\¬QC F J:=ah.on (t,F) (DA _ (nA.mpr rfl));let dw:=ah.b;rw[MA] at dw;rfl';show(λD ek=>∃ca:Addr,D=[↑a,some (.int (n:Int)),↑J,some (.int (k:Int)),some (.int a0),some (.int (N:Int)),some (.int (M:Int)),↑pl,some (.int (j:Int)),↑ca,none,none,none,none,none,none,none]/\P7 G ek ca (List.replicate n ((a0+(j:Int) * j) % 1000000000000000000000000000000)),?_,λh7 ge=>?_)
  .rfl';show(⋯,⋯,λcf bn=>?_);show PH (λi a4 D U=>∃v,D=[v,some (.int a0),some (.int (j:Int))]/\pC G U/\U cf>(.lst a4)/\a4=List.replicate i (.int ((a0+(j:Int) * j) % 1000000000000000000000000000000))) (_,rfl,gE vD bn,HC,rfl) (λi a4 D U b3=>?_) (λa4 D cg=>?_)
   .rintro⟨v,rfl,s1,ad,rfl⟩;rfl';show(.inl ⟨⋯,⋯⟩,ad,by rw[qA];omega,qF s1 bn,by rw[<-List.replicate_succ'];rfl)
   .rintro⟨v,rfl,s1,ad,rfl⟩;rw[gB] at ad;show(s1,bn,by rw[List.map_replicate];show ad)
  rintro⟨ca,rfl,ae,g1,f1⟩;subst c4;let dt:=ak.same ae;let(b0,bc):=dt.cx.ss.me;let dz:fD F.s < room F.s:=by rw[ag.lv];unfold room;rw[ag.fr,ag.sr];show a1
  rfl';show(_,uC.of (ae _ _ dw),_,CC (j:=k) (by rw[IB (by rw[fA];omega),fA,bq,Nat.sub_self];rfl),t,rfl,_,VC.of (ae _ _ bg),_,CC (j:=0) rfl,_,rfl,b0,_,bc,DE ∅,λp ap=>(⋯,⋯,λcf bn=>XY ⋯ bn λeo bf ez=>?_));let(cm,et):=jD (o:=.tup [V.str "task",V.int (100+(j:Int)),V.int (j:Int)]) ap;let du:=(dt.same cm).same bf;show dD.fresh (Q:=λο ο bj=>CT K A bj n J a (ns.map V.int) l N M (j+1) a0 F.pl) (E:=λc x U=>E c none U) du e1 0 ⋯ ⋯ (l:=ca) (hh:=p) (m':=cf) (bs:=List.replicate n ((a0+(j:Int) * j) % 1000000000000000000000000000000)) (k:=[.inr (Str.ofString "task"),.inl (100+(j:Int)),.inl (j:Int)]) (ms:=List.replicate N false) (bf _ _ (cm _ _ f1)) (λab=>Ow.ex ak (.inl ab) g1) qA (bf _ _ et) ez (by rw[qA,ag.fr]) (_,_,j,rfl,.inl ⋯) ag.nk (.inr (ag.ne e0 ⋯)) (.inl dz) (λx bj gy dm f g3 fo=>(⋯,⋯,λbw dr=>XY ⋯ dr λdh c8 f0=>?_)) (λx y U bl a bp fc ο ο ο ai ac f3 f4 f5 f6=>?_)
  .let(c2,eu):=jD (o:=.tup [V.str "task",V.int (100+(j:Int)),V.int (j:Int)]) fo;show f dh g3 bw (c2.trans c8) (c8 _ _ eu) f0 (du.cx.lp.q.lv.none (dm _ (xD c2 dr)))
  .show(t,bl,(ah.same ((ae.trans cm).trans bf)).go bp fc ai ac,ag.up (f3 dz) f4 f5 f6,ac)
 rintro⟨b5,b6,a6,a7,a8,a3,Z,l,rfl,aw,cy⟩;obtain⟨⟨ay,X⟩,⟨aq,F⟩,rfl⟩:∃p q,l=[p,q]:=by
  cases l with
  |nil=>cases cy
  |cons p l=>cases l with
   |nil=>cases cy
   |cons q l=>cases l with
    |nil=>show(p,q,rfl)
    |cons r l=>simp at cy
 let cw:=(EB.mp aw.ap).1 (aq,F) (nA.mpr rfl);obtain⟨av,cb,eb⟩:dD A az n 0 X/\az ay>(.tup [.ref X.z.p,.ref X.pl])/\¬QC X J:=aw.on (ay,X) (wA ..);obtain⟨ak,bg,d7⟩:dD A az n 0 F/\az aq>(.tup [.ref F.z.p,.ref F.pl])/\¬QC F J:=aw.on (aq,F) (kA _ (nA.mpr rfl));let bw:MG A az n 0 0 X F:=(av,ak,λc=>(cw c).1,λc=>(cw c).2)
 clear cw;rfl';intro a2 bv;let(aj,cp):=jD (o:=.lst []) bv;generalize upd az a2 (.lst [])=bx at *;show(λD G=>∃ao:Bool,D=[↑a,some (.int (n:Int)),↑J,b5,b6,a6,a7,a8,a3,Z,↑a2,some (.bl ao),none,none,none,none,none]/\G=bx,?_,λga G=>?_)
 .rfl';show(2,rfl,(aw.same aj).sc.sq,⋯,_,rfl,rfl)
 rintro⟨ao,rfl,rfl⟩;let ch:Wd A G n 0 0 X F a2 []:=(bw.same aj,cp,λab=>Ow.ex av (.inl ab) bv,λab=>Ow.ex ak (.inl ab) bv,λv fv=>(VA fv).elim)
 show(λD G=>∃ar au aa a9,D=[↑a,some (.int (n:Int)),↑J,ar,au,a6,a7,a8,aa,Z,↑a2,some (.bl ao),a9,none,none,none,none]/\T7 A G n a2 J ay aq X.z.p X.pl F.z.p F.pl,?_,λgb bz=>?_)
 .rfl';show(_,(aw.same aj).sc.sq,λc9 br=>?_);let(ms,ey,fk):=R7 (ns:=ns) fm;rw[ey];let(b9,cn):=jD (o:=.lst (ms.map V.int)) br;let ax:=aj.trans b9;let c7:∀{c o},az c>o->¬QC X c->¬QC F c->sH X F a2 (upd G c9 (.lst (ms.map V.int))) c o:=λh bc f2=>(ax _ _ h,bc,f2,λe=>by rw[e,bv] at h;cases h)
  show⟨⟨_,uC.of cn⟩,XQ (K:=K) (xs:=ms.map V.int) (λi D G=>∃ar au aa a9,D=[↑a,some (.int (n:Int)),↑J,ar,au,a6,a7,a8,aa,Z,↑a2,some (.bl ao),a9,none,none,none,none]/\Wi A G n i 0 a2 J ay aq c9 (ms.map V.int) X.z.p X.pl F.z.p F.pl) (_,_,_,_,rfl,X,F,[],ch.same b9,by simp,rfl,rfl,rfl,rfl,c7 aw.b eb d7,c7 cb (QC.nt av cb) (QC.nt ak cb),c7 bg (QC.nt av bg) (QC.nt ak bg),cn,λab=>Ow.ex av (.inl ab) (xD aj br),λab=>Ow.ex ak (.inl ab) (xD aj br),λe=>by rw[e,cp] at br;cases br) (λi D G _ af=>by let(_,_,_,_,af):=af;show af.2.sq) (λi v t D G b3=>?_) (λD G=>?_)⟩;rotate_left
  .rintro⟨ar,au,aa,a9,rfl,W⟩;show(_,_,_,_,rfl,_,_,_,by rw[fA];show fk,W)
  rintro⟨ar,au,aa,a9,rfl,W⟩ e2;let dy:=(aA.mp b3).1;rw[fA] at dy;rw[FA,cA dy] at b3;obtain rfl:=bA b3;generalize ms[i]=c;let(bm,dj):=jD (o:=.tup [V.int (i:Int),V.int c]) e2;rfl';show(_,VC.of dj,rfl,_,_,rfl,_,_,rfl,rfl,CJ (λj D G=>∃aa a9,D=[↑a,some (.int (n:Int)),↑J,some (.int (i:Int)),some (.int c),a6,a7,a8,aa,Z,↑a2,some (.bl ao),a9,none,none,none,none]/\Wi A G n i j a2 J ay aq c9 (ms.map V.int) X.z.p X.pl F.z.p F.pl) (_,_,rfl,W.same bm) (λj D G a1=>?_) (λD G=>?_));rotate_left
  .rintro⟨aa,a9,rfl,W⟩;show(_,_,_,_,rfl,W.next)
  clear W bm dj e2 b9 cn ax c7 aw ch;rintro⟨aa,a9,rfl,W⟩;rw[pB];let(S,gj,u,us,t,cv,cz,dn,dl,ba,nx,go):=W.pick a1;rfl';show (λdd=>CF (λο=>dd) (λο=>CF (λο=>dd) (λο=>nx))) ?_;show(ao,_,i,rfl,⋯,⋯,λx bj s1=>(_,uC.of (s1 _ _ dn),_,dl,t,rfl,_,VC.of (s1 _ _ ba),_,CC (j:=0) rfl,_,uC.of (s1 _ _ dn),_,dl,t,rfl,_,VC.of (s1 _ _ ba),_,CC (j:=1) rfl,n,i,S,a2,x,us,rfl,cv.du.x.same s1,e0,e1,⋯,s1 _ _ cv.hh,⋯,cv.nx,λU bl bp f9 ai ac=>(true,rfl,iD (go bl U bp (f9.after s1) ai ac))))
 rintro⟨ar,au,aa,a9,rfl,i,c9,vs,b3,bl,er,us,am,cz,ai,ac,c3,dk,bi⟩;rw[<-ai,<-ac,<-c3,<-dk] at bi;clear aw ch bw av cb eb ak bg d7 ai ac c3 dk aj cp bv;let gt:us.length < 16777216:=⋯;show(λD G=>∃b7 b8,D=[↑a,some (.int (n:Int)),↑J,ar,au,a6,a7,a8,aa,Z,↑a2,some (.bl ao),a9,b7,b8,none,none]/\pC bz G,?_,λgc c0=>?_)
 .rfl';show⟨⟨_,uC.of am.hh⟩,HK (K:=K) (xs:=us) (λj D G=>∃b7 b8,D=[↑a,some (.int (n:Int)),↑J,ar,au,a6,a7,a8,aa,Z,↑a2,some (.bl ao),a9,b7,b8,none,none]/\pC bz G) (_,_,rfl,vD) (λj D G _ af=>by let(_,_,af):=af;show uC.of (af.2 _ _ am.hh)) (λj v D G a1=>?_) (λD G=>?_)⟩
  .rintro⟨b7,b8,rfl,a5⟩;let(p,x,y,an,rfl,dv,ap,bt,d1):=am.he v (dA a1);rfl';show(_,VC.of (a5 _ _ ap),rfl,_,_,rfl,_,_,rfl,rfl,x,y,KM an,rfl,(cQ bt dv).same a5,(cQ d1 dv).same a5,kB (PY an) (by decide),λU s'=>(true,rfl,iD (a5.trans s')))
  .rintro⟨b7,b8,rfl,a5⟩;show(_,_,rfl,a5)
 rintro⟨b7,b8,rfl,a5⟩;let e3:=a5 _ _ bi.kb.1;let g4:∀(j:Nat) (v:V),[V.ref ay,V.ref aq][j]?>v->∃(S:OD) (u:Nat) (t:Addr),v=.ref t/\dD A c0 n u S/\c0 t>(.tup [.ref S.z.p,.ref S.pl]):=λj v a1=>by
  match j,a1 with
  |0,a1=>show(bl,_,ay,(bA a1).symm,am.du.x.same a5,a5 _ _ bi.k1.1)
  |1,a1=>show(er,_,aq,(bA a1).symm,am.du.y.same a5,a5 _ _ bi.k2.1)
 clear am bi a5;rfl';show⟨⟨_,uC.of e3⟩,HK (K:=K) (xs:=[V.ref ay,V.ref aq]) (λj D G=>∃d5 d3 d4,D=[↑a,some (.int (n:Int)),↑J,ar,au,a6,a7,d5,aa,Z,↑a2,some (.bl ao),a9,b7,b8,d3,d4]/\pC c0 G) (_,_,_,rfl,vD) (λj D G _ af=>by let(_,_,_,af):=af;show uC.of (af.2 _ _ e3)) (λj v D G a1=>?_) (λD G=>?_)⟩;rotate_left
 .rintro⟨d5,d3,d4,rfl,ae⟩;rfl';show g5 G
 rintro⟨d5,d3,d4,rfl,ae⟩;let(S,u,t,rfl,bp,ba):=g4 j v a1;let al:=bp.cx.same ae;let ba:=ae _ _ ba;let(b0,bc):=al.ss.me;let(okf,oks):=al.oks;let gs:=al.ss.lens;let gl:=al.ss.len;let gr:=al.len;let fz:(tF S.s).length<=64:=by unfold tF;rw[bC];omega
 let g0:(tS S.s).length<=64:=by unfold tS;rw[bC];omega
 let ew:((VE S.p.fr:Nat):Int)+(VE S.p.sr:Nat)=(fD S.s:Nat):=by unfold fD;rw[WP al.si.fr,WP al.si.sr];rfl
 rfl';show(_,VC.of ba,rfl,_,_,rfl,_,_,rfl,rfl,_,rfl,b0,_,bc,DE ∅,S.z,S.s,rfl,al.ss,okf,λbj fy cj gp ff=>?_);let cc:=al.same cj;let(us,fb,cz,ft):=cc.tf;show(_,rfl,_,uC.of cc.lp.q.hp,_,CC (j:=0) rfl,fy,S.fl,us,tF S.s,rfl,fb,cz,ft,λr O=>cK okf O,fz,ff,λgf ck=>(true,rfl,iD ?_));let cd:=cc.same ck;show(_,rfl,b0,_,ck _ _ (cj _ _ bc),DE ∅,S.z,S.s,rfl,cd.ss,cd.tw,okf,oks,λgg l3 c1 gq fg=>?_);let ce:=cd.same c1;let(g9,be,fw,fu):=ce.ts;show(_,rfl,_,uC.of ce.lp.q.hp,_,CC (j:=1) rfl,l3,S.sl,g9,tS S.s,rfl,be,fw,fu,λr O=>eK okf oks O,g0,fg,λgi b9=>(true,rfl,iD ?_));let da:=ce.same b9;show(S.pl,S.fl,S.sl,S.L,S.p,true,rfl,da.lp,⋯,⋯,λcg gz bm ο fh=>(_,.inl (_,uC.of fh,rfl),?_));let db:=da.same bm;show(S.pl,S.fl,S.sl,S.L,S.p,false,rfl,db.lp,⋯,⋯,λen h0 di ο fj=>(_,.inl (_,uC.of fj,rfl),?_));let dc:=db.same di;let(ev,f7):=dc.ss.me;rw[ZP,ZP];show(_,rfl,ev,_,f7,DE ∅,S.z,S.s,rfl,dc.ss,λeo bf=>(_,_,.leaf (.int (fD S.s:Nat)),rfl,by unfold yD;show⟨rfl,rfl⟩,by unfold yD;show⟨congrArg V.int ew,rfl⟩,by unfold RC;decide,λdh c8=>(true,rfl,iD ?_)));show (((((((ae.trans cj).trans ck).trans c1).trans b9).trans bm).trans di).trans bf).trans c8
end
theorem DT {l:W.OpenLaw} {q:Program} {loose:!Str} {XP:(Str->Option Value)->Heap->Prop} {YP:World->Heap->Prop} {j:DefRec} {K:Params->W.Frag} (a6:l.most>63) (a3:j.params.defaults=[]) (a4:j.name="law")
  (a1:∀(w:World) (h:Heap),YP w h->(K w.params).In h)
  (F:∀(w:World) (mg:Str->Option Value) (h:Heap),(K w.params).In h->h.Ns mainGlobals mg->∃A:cE,LD (K w.params) mg A):
  W.WalkO q loose XP YP l.row.toRowW j [] (λf vs=>PySem.call f vs):=by
 show L2.YZ (n:=63) (k:=14+1) (x:="_law_script") (CX:=λw=>BG l.prog w) (sp:=λw=>nK (K w.params)) a6 (by decide) a3 (rfl,by decide,by decide) a1 ?_ (λο ο a ns a5 ο a0=>(a,ns,rfl,a0,a5,λο=>rfl)) λ_ _ _ _ _ ⟨_,_,_,_,_,_,_,_,_,_,D⟩=>D;intro w mg a7 h U G J;rw[a4] at J;let(A,T):=F w mg h U G;let(f,Z,e,O,a2):=T.Ha;let V:=J.symm.trans e;cases V;show(Z,a2,λbase ο ο=>O.okE LF (λvs H Q E D=>by let(a,ns,rfl,_):=D;rfl) (U7 (P:=l.prog) (w:=w) (base:=base) T))
end Pf
open PySem PySem.W PyProof.Rows
set_option maxRecDepth 100000 in
set_option maxHeartbeats 0 in
theorem PySem.Challenge.cw_frameland_k69_plain_sheets_holds : PySem.Challenge.rw_frameland_k69_plain_sheets.Holds := by
 w_on;o_law
 show holds_open (q:=Pf.vw) (loose:=Pf.lo) (Xt:=λs=>xlAt Pf.vw [] s&&recOk (RowW.records (PySem.Challenge.rw_frameland_k69_plain_sheets).row.toRowW) s) (XP:=XL Pf.vw []) (Yf:=Hook.obs (kHook Pf.Kf Pf.HI Pf.ZO)) (Ya:=Hook.val (kHook Pf.Kf Pf.HI Pf.ZO)) (YP:=Hook.says (kHook Pf.Kf Pf.HI Pf.ZO)) (N:=(5464)) Pf.left (Hook.of (kHook Pf.Kf Pf.HI Pf.ZO)) (Hook.keeps (kHook Pf.Kf Pf.HI Pf.ZO)) (λs e=>xl_of s (Bool.and_eq_true_iff.mp e).1) XL.keeps (by rfl) (by rfl) (by rfl) (λs e=>recFacts_of (Bool.and_eq_true_iff.mp e).2) (by rfl) (by first|assumption|decide+kernel) (by decide+kernel) (rfl,rfl,rfl,rfl,rfl,by decide+kernel) ?hw ?hc
 case hw=>w_witness2
 k_fill
 show Pf.DT (l:=PySem.Challenge.rw_frameland_k69_plain_sheets) rfl rfl rfl (λw h Y=>PySem.W.kIn_of Y) ?F
 case F=>
  intro w mg h KX G;refine' Pf.eL KX G ?_ ?_ ?_ ?_ ?_ ?_ ?_ ?_ ?_ ?_ ?_ ?_ ?_ ?_ ?_ ?_ (.mk ?_ ?_ ?_ ?_) (.mk ?_ ?_ ?_ ?_) (.mk ?_ ?_ ?_ ?_) (.mk ?_ ?_ ?_ ?_) (.mk ?_ ?_ ?_ ?_) (.mk ?_ ?_ ?_ ?_) (.mk ?_ ?_ ?_ ?_) (.mk ?_ ?_ ?_ ?_) (.mk ?_ ?_ ?_ ?_) (.mk ?_ ?_ ?_ ?_) (.mk ?_ ?_ ?_ ?_) (.mk ?_ ?_ ?_ ?_) (.mk ?_ ?_ ?_ ?_) (.mk ?_ ?_ ?_ ?_) (.mk ?_ ?_ ?_ ?_) (.mk ?_ ?_ ?_ ?_) (.mk ?_ ?_ ?_ ?_) (?_,?_,?_,?_) ?_ ?_ (.mk ?_ ?_ ?_ ?_ ?_ ?_ ?_) (.mk ?_ ?_ ?_ ?_ ?_) (.mk ?_ ?_ ?_ ?_ ?_) (?_,?_,?_,?_) ?_ ?_ (.mk ?_ ?_ ?_ ?_ ?_ ?_ ?_) (.mk ?_ ?_ ?_ ?_ ?_) (.mk ?_ ?_ ?_ ?_ ?_) (.mk ?_ ?_ ?_ ?_ ?_) (?_,?_,?_,?_) ?_ ?_ ?_ ?_ ?_ ?_ ?_ (.mk ?_ ?_ ?_ ?_ ?_ ?_ ?_) (.mk ?_ ?_ ?_ ?_ ?_) (.mk ?_ ?_ ?_ ?_ ?_) (.mk ?_ ?_ ?_ ?_ ?_) (.mk ?_ ?_ ?_ ?_ ?_) (.mk ?_ ?_ ?_ ?_ ?_) (.mk ?_ ?_ ?_ ?_ ?_) (.mk ?_ ?_ ?_ ?_ ?_) (.mk ?_ ?_ ?_ ?_ ?_) (.mk ?_ ?_ ?_ ?_ ?_) (.mk ?_ ?_ ?_ ?_ ?_) (.mk ?_ ?_ ?_ ?_ ?_) (.mk ?_ ?_ ?_ ?_ ?_) (.mk ?_ ?_ ?_ ?_ ?_) (.mk ?_ ?_ ?_ ?_ ?_) (.mk ?_ ?_ ?_ ?_ ?_) (.mk ?_ ?_ ?_ ?_ ?_) (.mk ?_ ?_ ?_ ?_ ?_) (.mk ?_ ?_ ?_ ?_ ?_) (.mk ?_ ?_ ?_ ?_ ?_) (.mk ?_ ?_ ?_ ?_ ?_) (.mk ?_ ?_ ?_ ?_ ?_) (.mk ?_ ?_ ?_ ?_ ?_) (.mk ?_ ?_ ?_ ?_ ?_) ?_ ?_ ?_ ?g0 ?_ (.mk ?_ ?_ ?_ ?_)
  all_goals first|k_is|skip
  (case g0=>k_exc)
