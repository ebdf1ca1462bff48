import PyProof.Rows.All
import Wide.All
import OpenK.AllK
import Wide.FinOn
import Lean
import PyProof.EqAt
import PyProof.EqKinds
import PyProof.TupleCall
import PyProof.NeKinds
import PyProof.EnumMake
import PyProof.EnumStmt
import PyProof.LayNew
import KE.KDictLaws
import KE.KDictSum
import KE.LcSums
import PyProof.Rows.SumAny
import PyProof.Rows.SortWalk
import PyProof.DictWalks
import PyProof.Rows.SortRev
import KE.KRevIter
import KE.KIntText
import PyProof.CallStr
import PyProof.StrCalls2
import PyProof.Rows.StrJoin2
import PyProof.StrWalks
import PyProof.Rows.Range3
import PyProof.Rows.MatchSeqLen
import PyProof.Rows.SetFrom
import PyProof.SetRoads
import PyProof.TupleKey
import PyProof.IsRules
import PyProof.Rows.SortShell
import PyProof.Rows.SortRuns
import PySem.Challenge.RW_frameland_k79_machine_sizes
set_option Elab.async false
set_option linter.all false
set_option genSizeOf false
set_option bootstrap.genMatcherCode false
set_option maxRecDepth 100000
set_option tactic.hygienic false
open Lean in
def cv:Nat->Syntax->MacroM (TSyntaxArray `rcasesPat)
|0,_=>Macro.throwUnsupported
|n+1,s=>do match s with
 |`($a||$b)=>return (<-cv n a)++(<-cv n b)
 |`(($a,$b,*))=>do
  let ps<-(#[a]++b.getElems).mapM fun x=>do
   let q<-cv n x
   `(Lean.Parser.Tactic.rcasesPatLo|$[$q:rcasesPat]|*)
  return #[<-`(rcasesPat|⟨$ps,*⟩)]
 |`(_)=>return #[<-`(rcasesPat|_)]
 |`($x:ident)=>return #[<-`(rcasesPat|$x:ident)]
 |_=>Macro.throwUnsupported
theorem ga {C:Prop} (h:∀G:Prop,(C->G)->G):C:=h C id
def lv:Nat->Lean.Syntax->Nat
|0,_=>0
|n+1,s=>if s.isIdent then 1 else s.getArgs.foldl (fun c x=>c+lv n x) 0
local macro_rules|`(tactic|let $p:term:=$e)=>do
 let q<-cv 9 p
 let t<-`(tactic|obtain $[$q:rcasesPat]|*:=$e)
 if lv 30 p<4||1<q.size||(p.raw.find? fun x=>x.isOfKind `«term_||_»).isSome then return t
 let (g,k):=(Lean.mkIdent `g_,Lean.mkIdent `k_)
 `(tactic|(refine ga fun $g $k=>?_;$t<;>(refine $k ?_;clear $k $g)))
local macro_rules|`(tactic|let $i:letId $b* $[:$t]?:=$e)=>`(tactic|have $i:letId $b* $[:$t]?:=$e)
local macro_rules|`(!$x)=>`(List $x)
local macro_rules|`($a > $b)=>`($a=some $b)
local macro_rules|`(let $i:letId $b* $[:$t]?:=$e;$r)=>`(have $i:letId $b* $[:$t]?:=$e;$r)
local macro_rules|`(tactic|show $e)=>`(tactic|refine $e)
open Sum (inl inr)
local macro_rules|`(↑$x:ident)=>`(some (.ref $x:ident))
local macro_rules|`(-$x:ident)=>`(($x:ident).mono (by decide))
local macro_rules|`(($a,$b,$c,$d,*))=>`(⟨$a,$b,$c,$d,*⟩)|`(($a,$b,$c))=>`(⟨$a,$b,$c⟩)
local macro_rules|`(abbrev $i:declId $s:optDeclSig $v:declVal)=>`(noncomputable abbrev $i:declId $s:optDeclSig $v:declVal)
local macro_rules|`(())=>`((rfl,rfl,rfl,by decide+kernel,rfl,by decide+kernel,by decide+kernel))
local macro_rules|`(#[$n:num,$b])=>`([(nat_lit $n,$b)])|`(#[$n:num,$b,$c,*])=>`((nat_lit $n,$b)::#[$c,*])
local macro_rules|`(def $i:declId $s:optDeclSig $v:declVal)=>`(noncomputable def $i:declId $s:optDeclSig $v:declVal)
local macro_rules | `(tactic| omega) => `(tactic| first | with_reducible assumption | decide | lia | omega (config := {}))
def aA:=@PySem.wpAny_bind
def bA:=@PyProof.Rows.boot_isinstance
def cA:=@PySem.Heap.get?_push_of_some
def dA:=@PySem.Heap.lt_size
def eA:=@Nat.le_refl
def fA:=@Nat.lt_of_lt_of_le
def iA:=@List.mem_cons
def jA:=@PySem.Heap.get?_push_size
def kA:=@if_neg
def lA:=@Option.some.inj
def nA:=@List.mem_append_right
def oA:=@Bool.false_ne_true
def pA:=@List.size_toArray
def qA:=@PySem.wpAny_pure
def rA:=@List.length_map
def uA:=@Nat.ne_of_lt
def vA:=@if_pos
def wA:=@List.mem_cons_of_mem
def xA:=@List.not_mem_nil
def yA:=@List.length_replicate
def zA:=@List.mem_cons_self
def AA:=@List.mem_singleton
def BA:=@List.getElem?_eq_getElem
def CA:=@List.map_cons
def DA:=@decide_eq_true
def EA:=@PySem.wpAny_mono
def FA:=@List.getElem?_eq_some_iff
def GA:=@decide_eq_false
def HA:=@List.length_append
def IA:=@Bool.and_eq_true
def JA:=@PySem.Heap.get?_update_other
def KA:=@Option.map_eq_some_iff
def LA:=@congrFun
def MA:=@Int.toNat_of_nonneg
def NA:=@Bool.false_eq_true
def OA:=@List.length_cons
def QA:=@Int.toNat_natCast
def RA:=@List.getElem?_map
def SA:=@PySem.PassesOwn.leaving
def UA:=@List.replicate_succ
def VA:=@if_false
def WA:=@Array.getD_eq_getD_getElem?
def XA:=@PyProof.Rows.boot_list
def YA:=@List.lookup_cons
def ZA:=@beq_iff_eq
def aB:=@PySem.wpAny_Call_Name_kw
def bB:=@List.mem_append
def cB:=@Nat.le_trans
def dB:=@or_false
def eB:=@Nat.lt_irrefl
local macro_rules|`(⋯)=>`(by omega)
local macro_rules|`(∅)=>`(by decide+kernel)
local macro_rules|`(tactic|rfl')=>`(tactic|walk_at "wp")
namespace Hd
open PySem PySem.W PySem.Calls PyProof.Rows
def xE (tb:String->Option Builtin) (p:Program) (w:World) (n0:Nat) (ann:Option Value):Nat->SharedT->Thread->Option SharedT
 |0,_,_=>none
 |n+1,s,t=>match through t with
  |true=>some s
  |false=>match stepOk n0 ann t with
   |false=>none
   |true=>match stepT (denote tb) p w s t with
    |some (s',t')=>xE tb p w n0 ann n s' t'
    |none=>none
theorem cY {tb:String->Option Builtin} {p:Program} {w:World} {n0:Nat} {ann:Option Value}:∀{n:Nat} {s r:SharedT} {t:Thread},xE tb p w n0 ann n s t>r->topRun tb p w n0 ann n s.abs t>r.abs
 |0,_,_,_,h=>by cases h
 |n+1,s,r,t,h=>by
  unfold xE at h;unfold topRun;cases he:through t with
  |true=>rw[he] at h;cases h;rfl
  |false=>
   rw[he] at h;cases hk:stepOk n0 ann t with
   |false=>rw[hk] at h;cases h
   |true=>
    rw[hk] at h;cases hs:stepT (denote tb) p w s t with
    |none=>rw[hs] at h;cases h
    |some x=>let(s2,t2):=x;rw[hs] at h;rw[stepT_spec hs];show cY h
def MM:!Obj->Nat->BT->BT
 |[],_,t=>t
 |o::l,n,t=>MM l (n+1) (t.ins n o)
def NM (P:Params):BT:=MM (boot_heap P).objs.toList 0 .nil
def YD (w:World) (os:OsState):SharedT:=(NM w.params,(boot_heap w.params).objs.size,(boot_heap w.params).life, #[],boot_drawn,boot_toks,os)
theorem xb (w:World) (j:OsState):(YD w j).abs=(boot_heap w.params, #[],boot_drawn,boot_toks,j):=by kernel_rfl
theorem yb (w:World):((boot_heap w.params).isNs mainGlobals&&(#[]:Array GenState).size == 0)=true:=by kernel_rfl
abbrev cD (w:World):Option Value:=(boot_heap w.params).nsMap mainGlobals "__annotations__"
def look {α:Type} (p:Program) (Yf:Shared->α) (H0:Heap) (s:Shared):Bool×α:=
 (staticsOk (importedModules p.main.body) H0 s.heap&&namesBound p s.heap&&gensDone s&&laidKept H0 s.heap,Yf s)
def cU (p:Program) (N:Nat) (w:World) (os:OsState):Option SharedT:=xE treeTable p w (boot_heap w.params).objs.size (cD w) N (YD w os) (topStub p)
def once {α:Type} (p:Program) (Yf:Shared->α) (N:Nat) (w:World) (os:OsState):=(cU p N w os).map λs=>look p Yf (boot_heap w.params) s.abs
def seen (p q:Program) (loose:!Str) (Xt:Shared->Bool) (N:Nat) (w:World) (os:OsState):=(cU p N w os).map λs=>openSeen q loose (importedModules p.main.body) Xt true s.abs
end Hd
namespace Hd
open PySem PySem.W
def dY:Nat->Nat->!Nat
 |0,_=>[]
 |k+1,n=>match Nat.beq n 0 with
  |true=>[]
  |false=>Nat.sub (n % 256) 1::dY k (n / 256)
def S (n:Nat):Str:=⟨⟨dY 200 n⟩⟩
def zb (P:Params) (x:Str) (t:Nat) (v:Value):DictEntry:=(PyData.keyHash P x,.str x t,v)
def dO (n:Nat) (l:!DictEntry):Obj:=(.type "dict",none,.dict ⟨l⟩ n, #[])
def tO (l:!Value):Obj:=(.type "tuple",none,.seq ⟨l⟩ 0, #[])
def cO (l:!Value):Obj:=(.type "code",none,.fields ⟨l⟩, #[])
end Hd
namespace Hd
open PySem PySem.W PySem.Calls PyProof.Rows
def DL (tb:String->Option Builtin) (p:Program) (w:World) (n0:Nat) (ann:Option Value):Nat->SharedT->Thread->Option (SharedT×Thread)
 |0,s,t=>some (s,t)
 |n+1,s,t=>match through t with
  |true=>none
  |false=>match stepOk n0 ann t with
   |false=>none
   |true=>match stepT (denote tb) p w s t with
    |some (s',t')=>DL tb p w n0 ann n s' t'
    |none=>none
theorem eY {tb:String->Option Builtin} {p:Program} {w:World} {n0:Nat} {ann:Option Value}:∀{n:Nat} {s s':SharedT} {t t':Thread},DL tb p w n0 ann n s t>(s',t')->topGo tb p w n0 ann n s.abs t>(s'.abs,t')
 |0,_,_,_,_,h=>by cases h;rfl
 |n+1,s,s',t,t',h=>by
  unfold DL at h;unfold topGo;cases he:through t with
  |true=>rw[he] at h;cases h
  |false=>
   rw[he] at h;cases hk:stepOk n0 ann t with
   |false=>rw[hk] at h;cases h
   |true=>
    rw[hk] at h;cases hs:stepT (denote tb) p w s t with
    |none=>rw[hs] at h;cases h
    |some x=>let(s2,t2):=x;rw[hs] at h;rw[stepT_spec hs];show eY h
theorem fY {F:String->Option Builtin} {D:Program} {w:World} {B:Nat} {j:Option Value} {env:Env} {q:Pos} {n N i:Nat} {s s':SharedT} {r:Shared} {l:!Stmt} {c:Code} {pos J:Pos} (h:segRunT F D w B j 1 n s (piecesOf (l.take i) env c pos [topFrame q])>(.next,(s',(c,J))))
  (k:topRun F D w B j N s'.abs (restOf (l.drop i) env c J [topFrame q])>r):topRun F D w B j (n+N) s.abs (restOf l env c pos [topFrame q])>r:=by
 have:=piece_app (segRun_of h) k;rwa[List.take_append_drop] at this
theorem Rb {j q:Program} {loose:!Str} {Xt:Shared->Bool} {F:Type} {Yf:Shared->F} {Ya:World->F} {N Nl:Nat} {S:World->OsState->SharedT} {t:Thread}
  (e:opening j=plainProg j.main.scope.names) (U:Nat.ble 600 N=true) (f:∀s,fenceModules? j s>s)
  (QM:∀(w:World) (B:OsState) (r:Shared),topRun treeTable j w (boot_heap w.params).objs.size (cD w) Nl (S w B).abs t>r->topRun treeTable j w (boot_heap w.params).objs.size (cD w) N (YD w B).abs (topStub j)>r)
  (one:∀(w:World) (B:OsState),(xE treeTable j w (boot_heap w.params).objs.size (cD w) Nl (S w B) t).map (λs=>look j Yf (boot_heap w.params) s.abs)>(true,Ya w))
  (two:∀(w:World) (B:OsState),(xE treeTable j w (boot_heap w.params).objs.size (cD w) Nl (S w B) t).map (λs=>openSeen q loose (importedModules j.main.body) Xt true s.abs)>(openGood q loose)):LeftO j q loose Xt Yf Ya N:=λw=>by
 let((h,O,d,k,B),J,L):=KA.mp (boot_open e U f w);obtain⟨rfl,rfl,rfl,rfl⟩:h=boot_heap w.params/\O= #[]/\d=boot_drawn/\k=boot_toks:=by simpa using L
 let(D,r,l):=KA.mp (one w B);let(a0,Z,W):=KA.mp (two w B);obtain rfl:D=a0:=lA (r.symm.trans Z);let r:=QM w B _ (cY r);rw[xb] at r;obtain⟨V,Y⟩:_/\_:=by simpa only[look,Prod.mk.injEq] using l
 let t:topFrom treeTable j w N (boot_heap w.params, #[],boot_drawn,boot_toks,B)>D.abs:=by
  unfold topFrom;dsimp only;rw[yb w,r];change (match staticsOk (importedModules j.main.body) (boot_heap w.params) D.abs.heap&&namesBound j D.abs.heap&&gensDone D.abs&&laidKept (boot_heap w.params) D.abs.heap with|true=>_|false=>_)=_;rw[V]
 unfold openEnds;rw[J];change (topFrom treeTable j w N _).map _=_;rw[t];show congrArg some (Prod.ext W Y)
end Hd
namespace Hd
open PySem PySem.W PySem.Calls PyProof.Rows
theorem tw_run:(λ(_:(String->Option Builtin)->Program->World->Nat->Option Value->Nat->SharedT->Thread->Option SharedT)=>true) xE=true:=by k_qdec
theorem tw_go:(λ(_:(String->Option Builtin)->Program->World->Nat->Option Value->Nat->SharedT->Thread->Option (SharedT×Thread))=>true) DL=true:=by k_qdec
theorem tw_boot:(λ(_:World->OsState->SharedT) (_:World->Option Value)=>true) YD cD=true:=by k_qdec
end Hd
namespace Hd
open PySem PySem.W PySem.Calls PyProof.Rows
def cF (s:SharedT) (a:Addr):Option Obj:=match Nat.blt a s.n with
 |true=>match s.tree.get a with
  |some o=>alive o
  |none=>alive default
 |false=>none
theorem Xb (s:SharedT) (a:Addr):cF s a=s.abs.heap.get? a:=by
 unfold cF;cases e:Nat.blt a s.n with
 |false=>show (abs_get_none λh=>by rw[show Nat.blt a s.n=true from Nat.ble_eq_true_of_le h] at e;cases e).symm
 |true=>
  let lt:a < s.n:=Nat.le_of_ble_eq_true e;cases g:s.tree.get a with
  |some o=>show (abs_get lt g).symm
  |none=>
   change _=(absHeap s.tree s.n s.life).get? a;unfold Heap.get?;rw[absHeap_at,vA lt,g]
   rfl
def ZD (p q:Program) (loose:!Str) (Xt:Shared->Bool) (as:!Addr) (H0:Heap) (s:SharedT):=
 ((staticsOk (importedModules p.main.body) H0 s.abs.heap&&namesBound p s.abs.heap&&gensDone s.abs&&laidKept H0 s.abs.heap,as.map (cF s)),openSeen q loose (importedModules p.main.body) Xt true s.abs)
theorem Yb {D q:Program} {loose:!Str} {Xt:Shared->Bool} {as:!Addr} {B:Heap} {r:Option SharedT} {K:!(Option Obj)} (h:r.map (ZD D q loose Xt as B)>((true,K),openGood q loose)):
  r.map (λs=>look D (λs=>as.map s.heap.get?) B s.abs)>(true,K):=by
 let(s,rfl,l):=KA.mp h;let j:=congrArg Prod.fst l;let e:as.map (cF s)=as.map s.abs.heap.get?:=List.map_congr_left λa ο=>Xb s a;unfold ZD at j;rw[e] at j;show congrArg some j
theorem Zb {j q:Program} {loose:!Str} {Xt:Shared->Bool} {as:!Addr} {B:Heap} {r:Option SharedT} {K:!(Option Obj)} (h:r.map (ZD j q loose Xt as B)>((true,K),openGood q loose)):
  r.map (λs=>openSeen q loose (importedModules j.main.body) Xt true s.abs)>(openGood q loose):=by
 let(s,rfl,l):=KA.mp h;show congrArg some (congrArg Prod.snd l)
def SM (p q:Program) (loose:!Str) (Xt:Shared->Bool) (as:!Addr) (N:Nat) (w:World) (os:OsState):=(cU p N w os).map (ZD p q loose Xt as (boot_heap w.params))
theorem tw_look2:(λ(_:Program->Program->!Str->(Shared->Bool)->!Addr->Heap->SharedT->_)=>true) ZD=true:=by k_qdec
theorem tw_once2:(λ(_:Program->Program->!Str->(Shared->Bool)->!Addr->Nat->World->OsState->Option _)=>true) SM=true:=by k_qdec
end Hd
namespace L2
open PySem
def fB (s:Stmt) (j:Nat):Stmt:=match s with
 |.ClassDef _ _ _ body _ _ _ _ _ _ _=>body.getD j (.Pass (0,0,0,0))
 |_=>.Pass (0,0,0,0)
def kB (s:Stmt):Arguments:=match s with
 |.FunctionDef _ a _ _ _ _ _ _ _ _=>a
 |_=>{posonlyargs:=[],args:=[],vararg:=none,kwonlyargs:=[],kw_defaults:=[],kwarg:=none,defaults:=[]}
def jB (s:Stmt):!Stmt:=match s with
 |.FunctionDef _ _ b _ _ _ _ _ _ _=>b
 |_=>[]
def iB (s:Stmt):Scope:=match s with
 |.FunctionDef _ _ _ _ _ _ sc _ _ _=>sc
 |_=>{kind:=.function,names:=[],isGenerator:=false,isCoroutine:=false}
end L2
def PySem.W.Fast.tw12703054048422910189:PySem.Program:=PySem.Challenge.pw_frameland_k79_machine_sizes
theorem PySem.W.Fast.te12703054048422910189:PySem.Challenge.pw_frameland_k79_machine_sizes=PySem.W.Fast.tw12703054048422910189:=rfl
namespace Pf
open PySem L2
def lB (i:Nat):Stmt:=PySem.Challenge.pw_frameland_k79_machine_sizes.main.body.getD i (.Pass (0,0,0,0))
noncomputable section
open Hd
def z0:Nat:=205661564926082737344582532348854362216508279742340999334397593391302468205
def z1:Nat:=27127582262911072
def z2:Nat:=116512114954948911152848992
def z3:Nat:=455126385231797511086176
def z4:Nat:=500416834696884185539869749159288928
def z5:Nat:=29827167671303893903271485536
def z6:Nat:=9700865007064396754801562313776
def z7:Nat:=455125376429887381069920
def z8:Nat:=469986605152
def z9:Nat:=19499049774369092
def wS:Nat:=4994287891322849859
def pI:Nat:=7453563462337523558
def qI:Nat:=7453563376185273713
def sI:Nat:=29115482174220899
def tI:Nat:=8391730455727333993
def uI:Nat:=2148282996666014198392
def vI:Nat:=36042207864196378890247432824
def ZG:Nat:=545146499936607105348423
def aH:Nat:=28835115112362063
def bH:Nat:=2037243915540886812240
def cH:Nat:=2148282720731175150147
def dH:Nat:=119247121772623
def fH:Nat:=119225645756495
def gH:Nat:=2000274411557569787472
def iH:Nat:=478459748949
def jH:Nat:=1870502957375938719823
def kH:Nat:=33048469456515151
def lH:Nat:=121429199908943
def wI:Nat:=7380678962623575146
def xI:Nat:=2055256381122481779818
def xS:Nat:=101952521820057743536705614
def yI:Nat:=36042203234783605173055285604
def zI:Nat:=113732351258470
def AI:Nat:=7957987429399816821
def BI:Nat:=29115482190865009
def CI:Nat:=31367281986924648
def DI:Nat:=111490630316139
def mH:Nat:=2147201852470124049748
def xW:Nat:=23616678805231350591419338830
def PK:Nat:=483571264869516729017965
def EI:Nat:=440040583241
def QK:Nat:=504413714548
def FI:Nat:=1819308099
def RK:Nat:=33040738550837357
def SK:Nat:=129065385555569
def TK:Nat:=33040738634724197
def UK:Nat:=7453563440795644004
def WK:Nat:=29115481922039925
def GI:Nat:=439921893973
def HI:Nat:=32763704688078662
def II:Nat:=504229161300
def JI:Nat:=500186509652
def yS:Nat:=140719353076932838328527204
def zS:Nat:=28832950449889870
def AS:Nat:=34807946493563893454802022513
def BS:Nat:=2360876520579034574696528942098788
def CS:Nat:=36328676245180164783460216160
def DS:Nat:=1889380072283105815904
def ES:Nat:=1890460943890256129376
def FS:Nat:=1871439432312149929312
def GS:Nat:=32012810921584819481547533664
def HS:Nat:=1889597936114103119200
def IS:Nat:=8675744192303099232
def xC:Nat:=455125450472104437637216
def SC:Nat:=154789842426610354947036250589871895399
def yC:Nat:=500416517772168279997240570217455712
def zC:Nat:=140854816109632365363434125429399349832812124725344
def aE:Nat:=116512133262362862868258912
def qD:Nat:=2595807759375494792423391711955702693320880999
def LC:Nat:=6944679725401530464
def nF:Nat:=1701671029
def xG:Nat:=435727529576
def JS:Nat:=516757173630863403280740
def KI:Nat:=2165357850485127146099
def LI:Nat:=129065384569461
def KS:Nat:=28823093466133610
def VN:Nat:=30801127769404522
def LS:Nat:=28541580069598314
def MS:Nat:=31392679273066234308940950897
def NS:Nat:=478922323667592571740785
def OS:Nat:=33040738702025329
def QS:Nat:=7307774714166534765
def qE:Nat:=6944679699547512928
def xD:Nat:=531976422797234828493252396058833767
def ML:Nat:=7814979509663852143
def NL:Nat:=7813572057470887535
def OL:Nat:=2166657694140852363893
def PL:Nat:=2166657694140852036195
def QL:Nat:=32012811197779588502284105076
def RS:Nat:=7453563436348760689
def SS:Nat:=512162497145278640318820
def US:Nat:=512070258358360511768932
def WN:Nat:=7814979509662609254
def XN:Nat:=2000274446712430424933
def VS:Nat:=1890460943890055651939
def WS:Nat:=8350047493112005182606836918628
def XS:Nat:=9446029003694613325605449134053798776826212
def jG:Nat:=2199408573624556516036856156156775
def HF:Nat:=1819308141
def YS:Nat:=131113599269184769279358324
def nH:Nat:=9539081618956132404483869273457
def kG:Nat:=154758486134260916874677995024360305511
def SD:Nat:=154722280447326879724956034068434285415
def yD:Nat:=141970688389014864743588469
def IC:Nat:=39608888543647203676973435206118039253863
def oF:Nat:=2000634754473795154288
def pF:Nat:=2000274446712396214640
def BE:Nat:=2000634754473627840629
def DE:Nat:=2000274446712228900981
def YN:Nat:=2618896954680525405888745192623199485288607558
def EE:Nat:=2000350444955940778101
def lG:Nat:=512162497145253139606884
def mG:Nat:=512070258358335011056996
def oH:Nat:=8315443087802263155
def pH:Nat:=36039771160920033285907509365
def iD:Nat:=604688386180134175214183720302048103
def qH:Nat:=1870501547802382857322
def rH:Nat:=554573001519589316061805
def sH:Nat:=148043559308712686361209447
def tH:Nat:=526146714420258238851687
def nE:Nat:=154800023163187350263413837515144196967
def qF:Nat:=140789800901245672938236525
def rF:Nat:=33040738433327721
def sF:Nat:=140719112692525297883246709
def tF:Nat:=549960882328764939071605
def nD:Nat:=153393133820091925708435784190117704551
def EC:Nat:=34856898254541140998362006418193022874471
def uF:Nat:=154722361499902317960303193115794240359
def VE:Nat:=439770836337
def vF:Nat:=2362062134356282273045989537510247
def TD:Nat:=525923086182
def JC:Nat:=29827101539148240018006499424
def wF:Nat:=128047628446323
def KC:Nat:=1718116977
def UD:Nat:=504464894567
def DB:Nat:=1735222900
def jD:Nat:=2054120046
def ZN:Nat:=624721089673430778640529783835705258327388943700
def aO:Nat:=2617757014156703991004303271023538183198700884
def VD:Nat:=1819239011
def bO:Nat:=37951420520090778506602714804950266613495697467733332
def eO:Nat:=578981562671587066094221509702201825946659681620
def gC:Nat:=1819566709
def gO:Nat:=2350329423656573175351140194157426667259588681
def iO:Nat:=2658820793823122384803673107998479853226123854532207603785
def s (n t:Nat):Value:=.str (S n) t
def i (n:Int):Value:=.int n 0
def e (P:Params) (n t:Nat) (v:Value):DictEntry:=zb P (S n) t v
def cQ' (a b t:Nat) (l n:Int) (r m:Nat):Obj:=cO [s a t,s b (t+1),s z6 (t+2),i l,i n,i 0,i 0,i 3,.ref r,.bool true,i 181,.ref (r+1),.none,.ref (r+2),.ref (r+3),.ref (r+4),i m,i l,s z6 (m+1)]
def cR' (a b t:Nat) (l:Int) (r m:Nat):Obj:=cO [s a t,s b (t+1),s z6 (t+2),i l,i 0,i 0,i 0,i 0,.ref r,.bool false,i 181,.ref (r+1),.none,.none,.none,.none,i m,i l,s z6 (m+1)]
def fO (a b:String) (x:Stmt) (m r:Value):Obj:=(.type "function",none,.func (W.fnOf (Str.ofString a) (Str.ofString b) (kB x) (jB x) (iB x) .none .none .none m none r .none), #[])
def kP' (n:String) (b m:!Value) (d:Nat) (u:!Value) (x y v w:Nat):Obj:=(.type "type",none,.cls {name:=Str.ofString n,bases:=b,mro:=m,ns:=d,qualname:=Str.ofString n,hasDict:=true,slotNames:=[],subclasses:=u,abstract:=false,collection:=none,hasDel:=false}, #[none,none,some (s x y),some (s v w),some (.builtin "object.__new__"),some (.bool true)])
def fP' (a:String) (x:Stmt) (m:Value) (r:Nat):Obj:=fO a a x m (.ref r)
def o3 (P:Params):Obj:=dO 74 [e P 6944663249689206880 165 (s z0 2458),e P z1 166 .none,e P z2 167 .none,e P z3 168 (.builtin "__main__.__loader__#opaque"),e P 6944661016558198880 169 .none,e P z4 170 (.ref 6),e P z5 171 (.ref 4),e P 6944663245527933024 173 (s z6 172),e P z7 174 .none,e P z8 193 (.ref 21),e P 1161971283 197 (.int (1) 196),e P 302078645080 199 (.int (2) 198),e P 1431389772 201 (.int (4) 200),e P 1330005588 203 (.int (8) 202),e P z9 205 (.int (16) 204),e P wS 207 (.int (32) 206),e P pI 215 (.ref 28),e P qI 222 (.ref 35),e P sI 229 (.ref 42),e P tI 237 (.ref 49),e P uI 245 (.ref 56),e P vI 253 (.ref 63),e P ZG 273 (.ref 73),e P aH 289 (.ref 86),e P bH 305 (.ref 98),e P cH 321 (.ref 110),e P dH 337 (.ref 122),e P fH 353 (.ref 134),e P gH 369 (.ref 146),e P iH 385 (.ref 158),e P jH 401 (.ref 170),e P kH 417 (.ref 182),e P lH 433 (.ref 194),e P wI 442 (.ref 203),e P xI 451 (.ref 210),e P xS 455 (.int (3) 454),e P yI 462 (.ref 217),e P zI 469 (.ref 224),e P AI 478 (.ref 231),e P BI 488 (.ref 238),e P CI 496 (.ref 245),e P DI 506 (.ref 252),e P mH 660 (.ref 369),e P xW 664 (.int (64) 663),e P PK 672 (.ref 380),e P EI 881 (.ref 536),e P QK 893 (.ref 547),e P FI 988 (.ref 611),e P RK 1000 (.ref 622),e P SK 1011 (.ref 629),e P TK 1020 (.ref 636),e P UK 1026 (.ref 641),e P WK 1038 (.ref 648),e P GI 1116 (.ref 705),e P HI 1268 (.ref 824),e P II 1315 (.ref 859),e P JI 1368 (.ref 899),e P 128047577983316 1631 (.ref 1093),e P 29115482190672244 1640 (.ref 1104),e P 126883826394700 2024 (.ref 1385),e P 22674925647089541482707963982 2028 (.int (64) 2027),e P yS 2037 (.ref 1396),e P zS 2316 (.ref 1609),e P AS 2327 (.ref 1620),e P BS 2336 (.ref 1627),e P 439988939092 2457 (.ref 1714),e P CS 2467 (.ref 1725),e P DS 2476 (.ref 1732),e P ES 2486 (.ref 1739),e P FS 2494 (.ref 1746),e P GS 2504 (.ref 1753),e P HS 2515 (.ref 1760),e P IS 2524 (.ref 1767),e P 7889517 2538 (.ref 1774)]
def yW (P:Params):Obj:=dO 3 [e P xC 263 (s SC 254),e P yC 267 (.int (24) 266),e P zC 268 (.ref 71),e P aE 270 (.ref 74),e P z1 271 .none]
def zW:Obj:=((.type "type"),none,.cls {name:=(Str.ofString "FrameError"),bases:=[(.type "ValueError")],mro:=[.ref 73,(.type "ValueError"),(.type "Exception"),(.type "BaseException"),(.type "object")],ns:=72,qualname:=(Str.ofString "FrameError"),hasDict:=true,slotNames:=[],subclasses:=[.ref 86,.ref 98,.ref 110,.ref 122,.ref 134,.ref 146,.ref 158,.ref 170,.ref 182,.ref 194],abstract:=false,collection:=none,hasDel:=false}, #[(some (.ref 64)),none,(some (s ZG 256)),(some (s ZG 264)),(some (.builtin "ValueError.__new__")),(some (.bool true))])
def AW (P:Params):Obj:=dO 2 [e P xC 281 (s SC 254),e P yC 285 (.int (26) 284),e P zC 286 (.ref 84),e P z1 287 .none]
def BW:Obj:=((.type "type"),none,.cls {name:=(Str.ofString "NoShape"),bases:=[.ref 73],mro:=[.ref 86,.ref 73,(.type "ValueError"),(.type "Exception"),(.type "BaseException"),(.type "object")],ns:=85,qualname:=(Str.ofString "NoShape"),hasDict:=true,slotNames:=[],subclasses:=[],abstract:=false,collection:=none,hasDel:=false}, #[(some (.ref 77)),none,(some (s aH 274)),(some (s aH 282)),(some (.builtin "ValueError.__new__")),(some (.bool true))])
def CW (P:Params):Obj:=dO 2 [e P xC 297 (s SC 254),e P yC 301 (.int (28) 300),e P zC 302 (.ref 96),e P z1 303 .none]
def DW:Obj:=((.type "type"),none,.cls {name:=(Str.ofString "OutOfRoom"),bases:=[.ref 73],mro:=[.ref 98,.ref 73,(.type "ValueError"),(.type "Exception"),(.type "BaseException"),(.type "object")],ns:=97,qualname:=(Str.ofString "OutOfRoom"),hasDict:=true,slotNames:=[],subclasses:=[],abstract:=false,collection:=none,hasDel:=false}, #[(some (.ref 89)),none,(some (s bH 290)),(some (s bH 298)),(some (.builtin "ValueError.__new__")),(some (.bool true))])
def YK (P:Params):Obj:=dO 2 [e P xC 329 (s SC 254),e P yC 333 (.int (32) 332),e P zC 334 (.ref 120),e P z1 335 .none]
def ZK:Obj:=((.type "type"),none,.cls {name:=(Str.ofString "NoTask"),bases:=[.ref 73],mro:=[.ref 122,.ref 73,(.type "ValueError"),(.type "Exception"),(.type "BaseException"),(.type "object")],ns:=121,qualname:=(Str.ofString "NoTask"),hasDict:=true,slotNames:=[],subclasses:=[],abstract:=false,collection:=none,hasDel:=false}, #[(some (.ref 113)),none,(some (s dH 322)),(some (s dH 330)),(some (.builtin "ValueError.__new__")),(some (.bool true))])
def aL (P:Params):Obj:=dO 2 [e P xC 345 (s SC 254),e P yC 349 (.int (34) 348),e P zC 350 (.ref 132),e P z1 351 .none]
def bL:Obj:=((.type "type"),none,.cls {name:=(Str.ofString "NoBank"),bases:=[.ref 73],mro:=[.ref 134,.ref 73,(.type "ValueError"),(.type "Exception"),(.type "BaseException"),(.type "object")],ns:=133,qualname:=(Str.ofString "NoBank"),hasDict:=true,slotNames:=[],subclasses:=[],abstract:=false,collection:=none,hasDel:=false}, #[(some (.ref 125)),none,(some (s fH 338)),(some (s fH 346)),(some (.builtin "ValueError.__new__")),(some (.bool true))])
def cL (P:Params):Obj:=dO 2 [e P xC 361 (s SC 254),e P yC 365 (.int (36) 364),e P zC 366 (.ref 144),e P z1 367 .none]
def dL:Obj:=((.type "type"),none,.cls {name:=(Str.ofString "OutOfBank"),bases:=[.ref 73],mro:=[.ref 146,.ref 73,(.type "ValueError"),(.type "Exception"),(.type "BaseException"),(.type "object")],ns:=145,qualname:=(Str.ofString "OutOfBank"),hasDict:=true,slotNames:=[],subclasses:=[],abstract:=false,collection:=none,hasDel:=false}, #[(some (.ref 137)),none,(some (s gH 354)),(some (s gH 362)),(some (.builtin "ValueError.__new__")),(some (.bool true))])
def eL:Obj:=cQ' wI wI 436 47 1 197 440
def fL:Obj:=fP' "is_whole" (lB 27) (s 154722281479463014256600682153103225703 434) 202
def gL:Obj:=cQ' xI xI 443 49 3 204 449
def iL:Obj:=fP' "is_within" (lB 28) (s 154722281479463014256600682153103225703 434) 209
def jL:Obj:=cQ' zI zI 463 56 1 218 467
def kL:Obj:=fP' "end_of" (lB 32) (s qD 452) 223
def lL:Obj:=cQ' AI AI 470 58 2 225 476
def mL:Obj:=fP' "tie_from" (lB 33) (s qD 452) 230
def nL:Obj:=cQ' LC 8395602628992143088491004079736651362039124 519 79 1 260 523
def pL:Obj:=fO "__init__" "Stretches.__init__" (fB (lB 37) 0) (s qD 452) (.ref 265)
def qL:Obj:=cQ' nF 2057194043672392837723022735668564 606 114 1 329 610
def rL:Obj:=fO "told" "Stretches.told" (fB (lB 37) 10) (s qD 452) (.ref 334)
def sL (P:Params):Obj:=dO 4 [e P xC 514 (s qD 452),e P yC 518 (.int (77) 517),e P LC 525 (.ref 266),e P 7698033 536 (.ref 274),e P 7698020 545 (.ref 281),e P xG 555 (.ref 288),e P JS 564 (.ref 295),e P KI 573 (.ref 302),e P LI 582 (.ref 309),e P KS 591 (.ref 316),e P VN 597 (.ref 321),e P LS 605 (.ref 328),e P nF 612 (.ref 335),e P 111490546888804 619 (.ref 342),e P MS 630 (.ref 349),e P NS 636 (.ref 354),e P OS 645 (.ref 361),e P QS 651 (.ref 366),e P zC 653 (.ref 367),e P qE 655 (.ref 370),e P aE 657 (.ref 371),e P z1 658 .none]
def tL:Obj:=kP' "Stretches" [(.type "object")] [.ref 369,(.type "object")] 368 [] mH 507 mH 515
def jO:Obj:=cQ' PK PK 665 150 1 374 670
def kO:Obj:=fP' "least_free" (lB 40) (s xD 661) 379
def lO:Obj:=cQ' LC 1954753563970360692704735984513097 685 157 2 388 690
def mO:Obj:=fO "__init__" "House.__init__" (fB (lB 41) 0) (s xD 661) (.ref 393)
def nO:Obj:=cQ' ML 2199721175476886628490265163624521 693 162 1 395 698
def oO:Obj:=fO "new_task" "House.new_task" (fB (lB 41) 1) (s xD 661) (.ref 400)
def pO:Obj:=cQ' NL 2199325012903650553738972299161673 717 173 2 416 723
def qO:Obj:=fO "new_bank" "House.new_bank" (fB (lB 41) 4) (s xD 661) (.ref 421)
def rO:Obj:=cQ' OL 609859923998260050033739136169832521 781 202 1 459 785
def sO:Obj:=fO "task_list" "House.task_list" (fB (lB 41) 10) (s xD 661) (.ref 464)
def uO:Obj:=cQ' PL 609859923998259957794952218041282633 788 205 1 466 792
def vO:Obj:=fO "bank_list" "House.bank_list" (fB (lB 41) 11) (s xD 661) (.ref 471)
def wO:Obj:=cQ' QL 9010805286337637281539545668179908239978569 803 211 2 480 808
def xO:Obj:=fO "stretches_of" "House.stretches_of" (fB (lB 41) 13) (s xD 661) (.ref 485)
def yO:Obj:=cO [s RS 829,s 2097991594657664520040000427290697 830,s z6 831,i 223,i 2,i 0,i 0,i 3,.ref 501,(.bool true),i 181,.ref 502,.none,.none,.none,.ref 503,i 832,i 223,s z6 833]
def zO:Obj:=fO "pages_of" "House.pages_of" (fB (lB 41) 16) (s xD 661) (.ref 504)
def AO:Obj:=cQ' SS 144160926956038725368327681379818434633 835 229 2 506 840
def BO:Obj:=fO "check_task" "House.check_task" (fB (lB 41) 17) (s xD 661) (.ref 511)
def CO:Obj:=cQ' US 144134964045639125973426952214381228105 843 233 2 513 848
def DO:Obj:=fO "check_bank" "House.check_bank" (fB (lB 41) 18) (s xD 661) (.ref 518)
def EO (P:Params):Obj:=dO 4 [e P xC 680 (s xD 661),e P yC 684 (.int (155) 683),e P LC 692 (.ref 394),e P ML 700 (.ref 401),e P 1819504743 708 (.ref 408),e P WN 716 (.ref 415),e P NL 725 (.ref 422),e P XN 733 (.ref 429),e P 8020589 747 (.ref 437),e P 1969711725 757 (.ref 444),e P xG 768 (.ref 451),e P 435510080610 780 (.ref 458),e P OL 787 (.ref 465),e P PL 794 (.ref 472),e P VS 802 (.ref 479),e P QL 810 (.ref 486),e P KI 819 (.ref 493),e P LI 828 (.ref 500),e P RS 834 (.ref 505),e P SS 842 (.ref 512),e P US 850 (.ref 519),e P WS 860 (.ref 526),e P XS 870 (.ref 533),e P zC 874 (.ref 534),e P qE 876 (.ref 537),e P aE 878 (.ref 538),e P z1 879 .none]
def FO:Obj:=kP' "House" [(.type "object")] [.ref 536,(.type "object")] 535 [] EI 673 EI 681
def GO:Obj:=cQ' LC 7635756109259221455877975339075 908 253 2 555 913
def JO:Obj:=fO "__init__" "Book.__init__" (fB (lB 45) 0) (s jG 894) (.ref 560)
def KO:Obj:=cQ' nF 1871007083238733672515 965 286 1 597 969
def LO:Obj:=fO "told" "Book.told" (fB (lB 45) 6) (s jG 894) (.ref 602)
def MO (P:Params):Obj:=dO 4 [e P xC 903 (s jG 894),e P yC 907 (.int (251) 906),e P LC 915 (.ref 561),e P HF 925 (.ref 568),e P 6714486 935 (.ref 575),e P 1902536300 946 (.ref 582),e P 112615828452724 956 (.ref 589),e P YS 964 (.ref 596),e P nF 971 (.ref 603),e P nH 977 (.ref 608),e P zC 981 (.ref 609),e P qE 983 (.ref 612),e P aE 985 (.ref 613),e P z1 986 .none]
def NO:Obj:=kP' "Book" [(.type "object")] [.ref 611,(.type "object")] 610 [] FI 896 FI 904
def OO:Obj:=cO [s UK 1021,s UK 1022,s z6 1023,i 322,i 2,i 0,i 0,i 3,.ref 637,(.bool true),i 181,.ref 638,.none,.none,.none,.ref 639,i 1024,i 322,s z6 1025]
def PO:Obj:=fP' "count_of" (lB 50) (s kG 989) 640
def QO:Obj:=cQ' WK WK 1027 326 3 642 1036
def RO:Obj:=fP' "told_of" (lB 51) (s kG 989) 647
def SO:Obj:=cQ' LC 1954753563970360692704735865823829 1053 338 2 656 1058
def UO:Obj:=fO "__init__" "Table.__init__" (fB (lB 53) 0) (s SD 1039) (.ref 661)
def VO:Obj:=cO [s nF 1086,s 478977813309089999184469 1087,s z6 1088,i 351,i 1,i 0,i 0,i 3,.ref 684,(.bool true),i 181,.ref 685,.none,.none,.none,.ref 686,i 1089,i 351,s z6 1090]
def WO:Obj:=fO "told" "Table.told" (fB (lB 53) 4) (s SD 1039) (.ref 687)
def XO:Obj:=cQ' yD 39961196207893759245128558236988319425109 1092 354 1 689 1096
def YO:Obj:=fO "table_count" "Table.table_count" (fB (lB 53) 5) (s SD 1039) (.ref 694)
def ZO (P:Params):Obj:=dO 4 [e P xC 1048 (s SD 1039),e P yC 1052 (.int (336) 1051),e P LC 1060 (.ref 662),e P 7698033 1069 (.ref 669),e P HF 1077 (.ref 676),e P 1903194981 1085 (.ref 683),e P nF 1091 (.ref 688),e P yD 1098 (.ref 695),e P 452941932133 1106 (.ref 702),e P zC 1109 (.ref 703),e P qE 1111 (.ref 706),e P aE 1113 (.ref 707),e P z1 1114 .none]
def aP:Obj:=kP' "Table" [(.type "object")] [.ref 705,(.type "object")] 704 [] GI 1041 GI 1049
def bP:Obj:=cQ' LC 128106729568361558357101502686075121478 1131 362 3 717 1137
def cP:Obj:=fO "__init__" "Entries.__init__" (fB (lB 55) 0) (s IC 1117) (.ref 722)
def dP:Obj:=cQ' oF 36905197300746844619244348587026490421062 1140 368 2 724 1145
def eP:Obj:=fO "open_task" "Entries.open_task" (fB (lB 55) 1) (s IC 1117) (.ref 729)
def fP:Obj:=cQ' pF 36898550795684547174149761920674565549894 1156 374 3 738 1162
def gP:Obj:=fO "open_bank" "Entries.open_bank" (fB (lB 55) 3) (s IC 1117) (.ref 743)
def iP:Obj:=cQ' BE 36905197300743758226996739676242368098118 1226 412 2 794 1231
def jP:Obj:=fO "told_task" "Entries.told_task" (fB (lB 55) 11) (s IC 1117) (.ref 799)
def kP:Obj:=cQ' DE 36898550795681460781902153009890443226950 1234 415 2 801 1239
def lP:Obj:=fO "told_bank" "Entries.told_bank" (fB (lB 55) 12) (s IC 1117) (.ref 806)
def mP:Obj:=cQ' yD YN 1242 418 2 808 1247
def nP:Obj:=fO "table_count" "Entries.table_count" (fB (lB 55) 13) (s IC 1117) (.ref 813)
def oP:Obj:=cQ' EE 36899952715833265185361856243899332652870 1250 421 1 815 1254
def pP:Obj:=fO "told_book" "Entries.told_book" (fB (lB 55) 14) (s IC 1117) (.ref 820)
def qP (P:Params):Obj:=dO 4 [e P xC 1126 (s IC 1117),e P yC 1130 (.int (360) 1129),e P LC 1139 (.ref 723),e P oF 1147 (.ref 730),e P lG 1155 (.ref 737),e P pF 1164 (.ref 744),e P mG 1172 (.ref 751),e P HF 1180 (.ref 758),e P 7698033 1189 (.ref 765),e P 1718379125 1197 (.ref 772),e P oH 1207 (.ref 779),e P 120316569609843 1216 (.ref 786),e P 6714486 1225 (.ref 793),e P BE 1233 (.ref 800),e P DE 1241 (.ref 807),e P yD 1249 (.ref 814),e P EE 1256 (.ref 821),e P zC 1261 (.ref 822),e P qE 1263 (.ref 825),e P aE 1265 (.ref 826),e P z1 1266 .none]
def rP:Obj:=kP' "Entries" [(.type "object")] [.ref 824,(.type "object")] 823 [] HI 1119 HI 1127
def sP:Obj:=cQ' pH 10144293748177338121204804511615218490960212 1292 430 1 843 1296
def tP:Obj:=fO "told_holders" "Sheet.told_holders" (fB (lB 57) 1) (s iD 1269) (.ref 848)
def uP (P:Params):Obj:=dO 4 [e P xC 1278 (s iD 1269),e P yC 1282 (.int (424) 1281),e P LC 1291 (.ref 842),e P pH 1298 (.ref 849),e P qH 1305 (.ref 856),e P zC 1308 (.ref 857),e P qE 1310 (.ref 860),e P aE 1312 (.ref 861),e P z1 1313 .none]
def vP:Obj:=kP' "Sheet" [(.type "object")] [.ref 859,(.type "object")] 858 [] II 1271 II 1279
def wP:Obj:=cQ' LC 1954753563970360692704796130439508 1328 437 2 871 1333
def xP:Obj:=fO "__init__" "Spots.__init__" (fB (lB 58) 0) (s iD 1269) (.ref 876)
def yP:Obj:=cO [s rH 1353,s 156098422687084997236258294064131109204 1354,s z6 1355,i 453,i 1,i 0,i 0,i 3,.ref 892,(.bool true),i 181,.ref 893,.none,.none,.none,.ref 894,i 1356,i 453,s z6 1357]
def zP:Obj:=fO "live_count" "Spots.live_count" (fB (lB 58) 3) (s iD 1269) (.ref 895)
def BP (P:Params):Obj:=dO 4 [e P xC 1323 (s iD 1269),e P yC 1327 (.int (435) 1326),e P LC 1335 (.ref 877),e P sH 1344 (.ref 884),e P tH 1352 (.ref 891),e P rH 1358 (.ref 896),e P zC 1361 (.ref 897),e P qE 1363 (.ref 900),e P aE 1365 (.ref 901),e P z1 1366 .none]
def CP:Obj:=kP' "Spots" [(.type "object")] [.ref 899,(.type "object")] 898 [] JI 1316 JI 1324
def EW:Obj:=cQ' LC 500416912376412337332427809224026452 1383 458 4 911 1390
def FW:Obj:=fO "__init__" "Sheets.__init__" (fB (lB 60) 0) (s nE 1369) (.ref 916)
def GW:Obj:=cQ' 8458429107500640628 609494050826874274975507821181167956 1453 503 2 960 1459
def HW:Obj:=fO "sheet_at" "Sheets.sheet_at" (fB (lB 60) 7) (s nE 1369) (.ref 965)
def IW:Obj:=cQ' qF 10144974318022661352875422811256588356446548 1488 517 1 988 1492
def JW:Obj:=fO "live_sheets" "Sheets.live_sheets" (fB (lB 60) 11) (s nE 1369) (.ref 993)
def DP:Obj:=cQ' rF 2380836116742092014812639552498004 1502 523 1 1002 1506
def FP:Obj:=fO "hand_at" "Sheets.hand_at" (fB (lB 60) 13) (s nE 1369) (.ref 1007)
def GP:Obj:=cQ' sF 10139880695775420249778937948812234134546772 1509 526 1 1009 1516
def HP:Obj:=fO "told_frames" "Sheets.told_frames" (fB (lB 60) 14) (s nE 1369) (.ref 1014)
def IP:Obj:=cO [s tF 1519,s 39628857995586799648525390943893217241428 1520,s z6 1521,i 535,i 1,i 0,i 0,i 3,.ref 1016,(.bool true),i 181,.ref 1017,.none,.none,.none,.ref 1018,i 1522,i 535,s z6 1523]
def JP:Obj:=fO "told_slots" "Sheets.told_slots" (fB (lB 60) 15) (s nE 1369) (.ref 1019)
def KP:Obj:=cQ' 435510800494 31381860461143034575928584532 1525 538 1 1021 1529
def LP:Obj:=fO "moved" "Sheets.moved" (fB (lB 60) 16) (s nE 1369) (.ref 1026)
def MP:Obj:=cQ' 2166370315886094282869 156103432757937886773936481808104712532 1548 548 2 1042 1555
def NP:Obj:=fO "told_slot" "Sheets.told_slot" (fB (lB 60) 19) (s nE 1369) (.ref 1047)
def OP (P:Params):Obj:=dO 4 [e P xC 1378 (s nE 1369),e P yC 1382 (.int (456) 1381),e P LC 1392 (.ref 917),e P 452924437351 1403 (.ref 924),e P 1818518115 1414 (.ref 931),e P 1701671017 1424 (.ref 938),e P 123593597216365 1434 (.ref 945),e P 488476733378837491839081 1443 (.ref 952),e P 36344496227587819637979312233 1452 (.ref 959),e P 8458429107500640628 1461 (.ref 966),e P 113732352569443 1470 (.ref 973),e P 34182044304369268 1480 (.ref 980),e P 1701671015 1487 (.ref 987),e P qF 1494 (.ref 994),e P VN 1501 (.ref 1001),e P rF 1508 (.ref 1008),e P sF 1518 (.ref 1015),e P tF 1524 (.ref 1020),e P 435510800494 1531 (.ref 1027),e P 8458429051817327213 1540 (.ref 1034),e P 2148284700994785078626 1547 (.ref 1041),e P 2166370315886094282869 1557 (.ref 1048),e P 2128759062150016623209 1566 (.ref 1055),e P 578295153549658678911598 1574 (.ref 1062),e P 2055260603203882086509 1583 (.ref 1069),e P 2129475116924502438759 1594 (.ref 1076),e P 33062797301872241 1605 (.ref 1083),e P 8318262175738129780 1616 (.ref 1090),e P zC 1624 (.ref 1091),e P qE 1626 (.ref 1094),e P aE 1628 (.ref 1095),e P z1 1629 .none]
def PP:Obj:=kP' "Sheets" [(.type "object")] [.ref 1093,(.type "object")] 1092 [] 128047577983316 1371 128047577983316 1379
def QP:Obj:=cQ' LC 500416912376412337332426645472437836 1653 608 5 1112 1661
def RP:Obj:=fO "__init__" "Keeper.__init__" (fB (lB 63) 0) (s nD 1632) (.ref 1117)
def UP:Obj:=cQ' oF 144160926956042361793923235568677185100 1664 620 2 1119 1669
def VP:Obj:=fO "open_task" "Keeper.open_task" (fB (lB 63) 1) (s nD 1632) (.ref 1124)
def WP:Obj:=cQ' pF 144134964045642762399022506403239978572 1680 626 3 1133 1686
def ZP:Obj:=fO "open_bank" "Keeper.open_bank" (fB (lB 63) 3) (s nD 1632) (.ref 1138)
def aQ:Obj:=cQ' qF 10144974318022661352875422811255424604857932 1787 677 1 1210 1791
def bQ:Obj:=fO "live_sheets" "Keeper.live_sheets" (fB (lB 63) 14) (s nD 1632) (.ref 1215)
def cQ:Obj:=cQ' BE 144160926956030305574206013260926707276 1794 680 2 1217 1799
def dQ:Obj:=fO "told_task" "Keeper.told_task" (fB (lB 63) 15) (s nD 1632) (.ref 1222)
def eQ:Obj:=cQ' DE 144134964045630706179305284095489500748 1802 683 2 1224 1807
def fQ:Obj:=fO "told_bank" "Keeper.told_bank" (fB (lB 63) 16) (s nD 1632) (.ref 1229)
def gQ:Obj:=cQ' yD 10230066229220802366752910908683273594365516 1810 686 2 1231 1815
def iQ:Obj:=fO "table_count" "Keeper.table_count" (fB (lB 63) 17) (s nD 1632) (.ref 1236)
def jQ:Obj:=cQ' EE 144140440296223692130319749853336725068 1818 689 1 1238 1822
def kQ:Obj:=fO "told_book" "Keeper.told_book" (fB (lB 63) 18) (s nD 1632) (.ref 1243)
def lQ:Obj:=cQ' sF 10139880695775420249778937948811070382958156 1825 692 1 1245 1829
def mQ:Obj:=fO "told_frames" "Keeper.told_frames" (fB (lB 63) 19) (s nD 1632) (.ref 1250)
def nQ:Obj:=cQ' tF 39628857995586799648525390942729465652812 1832 695 1 1252 1836
def oQ:Obj:=fO "told_slots" "Keeper.told_slots" (fB (lB 63) 20) (s nD 1632) (.ref 1257)
def pQ:Obj:=cQ' rF 2380836116742092014811475800909388 1839 698 1 1259 1843
def qQ:Obj:=fO "hand_at" "Keeper.hand_at" (fB (lB 63) 21) (s nD 1632) (.ref 1264)
def rQ:Obj:=cQ' 128047730028644 9226811347882237188215419594316 1846 701 1 1266 1851
def sQ:Obj:=fO "counts" "Keeper.counts" (fB (lB 63) 22) (s nD 1632) (.ref 1271)
def tQ (P:Params):Obj:=dO 4 [e P xC 1648 (s nD 1632),e P yC 1652 (.int (606) 1651),e P LC 1663 (.ref 1118),e P oF 1671 (.ref 1125),e P lG 1679 (.ref 1132),e P pF 1688 (.ref 1139),e P mG 1696 (.ref 1146),e P 452657049717 1710 (.ref 1153),e P 111490765121140 1722 (.ref 1160),e P 28838413598549619 1731 (.ref 1167),e P xG 1741 (.ref 1174),e P 440022493556 1751 (.ref 1181),e P 1701671015 1758 (.ref 1188),e P 113732352569443 1767 (.ref 1195),e P 34182044304369268 1777 (.ref 1202),e P 1908112239705518334583 1786 (.ref 1209),e P qF 1793 (.ref 1216),e P BE 1801 (.ref 1223),e P DE 1809 (.ref 1230),e P yD 1817 (.ref 1237),e P EE 1824 (.ref 1244),e P sF 1831 (.ref 1251),e P tF 1838 (.ref 1258),e P rF 1845 (.ref 1265),e P 128047730028644 1853 (.ref 1272),e P 127486895455165750559794799 1864 (.ref 1279),e P 1870503503863918654570 1872 (.ref 1286),e P 136190751439747463845955927043767169895 1883 (.ref 1293),e P 8033740585374573934851345511271 1893 (.ref 1300),e P 8035902088071647097379977589607 1903 (.ref 1307),e P 127486895455165699188224867 1913 (.ref 1314),e P 2221711089152960979566 1919 (.ref 1319),e P 31356312640058474 1928 (.ref 1326),e P 122627505834796696814317671 1938 (.ref 1333),e P 439805570934 1947 (.ref 1340),e P 554701691901000496803943 1956 (.ref 1347),e P 609575652137340568627411844546650737 1965 (.ref 1354),e P 122585133309555090436482676 1976 (.ref 1361),e P 516755730515259458676340 1985 (.ref 1368),e P 112620308096628 1996 (.ref 1375),e P 8391730455726421605 2006 (.ref 1382),e P zC 2017 (.ref 1383),e P qE 2019 (.ref 1386),e P aE 2021 (.ref 1387),e P z1 2022 .none]
def uQ:Obj:=kP' "Keeper" [(.type "object")] [.ref 1385,(.type "object")] 1384 [] 126883826394700 1641 126883826394700 1649
def vQ:Obj:=cQ' yS yS 2029 811 3 1390 2035
def wQ:Obj:=fP' "check_sizes" (lB 66) (s EC 2025) 1395
def xQ:Obj:=((.type "tuple"),none,.seq #[(.int (0) 2050)] 0, #[])
def yQ:Obj:=cQ' LC 128106729568361558357097571931836932686 2051 820 5 1405 2059
def zQ:Obj:=((.type "function"),none,.func (W.fnOf (Str.ofString "__init__") (Str.ofString "Machine.__init__") (kB (fB (lB 67) 0)) (jB (fB (lB 67) 0)) (iB (fB (lB 67) 0)) (.ref 1404) .none .none (s EC 2025) none (.ref 1410) .none), #[])
def AQ:Obj:=cQ' ML 144160926956053242084738012214083215950 2062 826 1 1412 2067
def BQ:Obj:=fO "new_task" "Machine.new_task" (fB (lB 67) 1) (s EC 2025) (.ref 1417)
def CQ:Obj:=cQ' NL 144134964045653642689837283048646009422 2086 837 2 1433 2092
def DQ:Obj:=fO "new_bank" "Machine.new_bank" (fB (lB 67) 4) (s EC 2025) (.ref 1438)
def EQ:Obj:=cQ' OL 39967779979149970639011128022476930703950 2166 865 1 1490 2170
def FQ:Obj:=fO "task_list" "Machine.task_list" (fB (lB 67) 12) (s EC 2025) (.ref 1495)
def GQ:Obj:=cQ' PL 39967779979149964594049988556004285243982 2173 868 1 1497 2177
def HQ:Obj:=fO "bank_list" "Machine.bank_list" (fB (lB 67) 13) (s EC 2025) (.ref 1502)
def IQ:Obj:=cQ' QL 590532135245423396882975664909838460866022105678 2180 871 2 1504 2185
def JQ:Obj:=fO "stretches_of" "Machine.stretches_of" (fB (lB 67) 14) (s EC 2025) (.ref 1509)
def KQ:Obj:=cO [s 34449212995692148 2188,s 635475815672242203818200238884414030 2189,s z6 2190,i 874,i 2,i 0,i 0,i 3,.ref 1511,(.bool true),i 181,.ref 1512,.none,.none,.none,.ref 1513,i 2191,i 874,s z6 2192]
def LQ:Obj:=fO "seen_by" "Machine.seen_by" (fB (lB 67) 15) (s EC 2025) (.ref 1514)
def MQ:Obj:=cQ' qF 2597113425413801306336108239677739389736477262 2194 877 1 1516 2198
def NQ:Obj:=fO "live_sheets" "Machine.live_sheets" (fB (lB 67) 16) (s EC 2025) (.ref 1521)
def OQ:Obj:=cQ' BE 36905197300743758226996735745488129909326 2201 880 2 1523 2206
def PQ:Obj:=fO "told_task" "Machine.told_task" (fB (lB 67) 17) (s EC 2025) (.ref 1528)
def QQ:Obj:=cQ' yD 2618896954680525405888745192619268731050418766 2209 884 2 1530 2214
def RQ:Obj:=fO "table_count" "Machine.table_count" (fB (lB 67) 18) (s EC 2025) (.ref 1535)
def SQ:Obj:=cQ' DE 36898550795681460781902149079136205038158 2217 888 2 1537 2222
def TQ:Obj:=fO "told_bank" "Machine.told_bank" (fB (lB 67) 19) (s EC 2025) (.ref 1542)
def UQ:Obj:=cQ' EE 36899952715833265185361852313145094464078 2225 892 1 1544 2229
def VQ:Obj:=fO "told_book" "Machine.told_book" (fB (lB 67) 20) (s EC 2025) (.ref 1549)
def WQ:Obj:=cQ' sF 2595809458118507583943408114891984708930134606 2232 895 1 1551 2236
def XQ:Obj:=fO "told_frames" "Machine.told_frames" (fB (lB 67) 21) (s EC 2025) (.ref 1556)
def YQ:Obj:=cQ' tF 10144987646870220710022500077689434099966542 2239 898 1 1558 2243
def ZQ:Obj:=fO "told_slots" "Machine.told_slots" (fB (lB 67) 22) (s EC 2025) (.ref 1563)
def aR:Obj:=cQ' rF 609494045885975555788088495925649998 2246 901 1 1565 2250
def bR:Obj:=fO "hand_at" "Machine.hand_at" (fB (lB 67) 23) (s EC 2025) (.ref 1570)
def cR:Obj:=cQ' 128047730028644 2362063705057852716533838308991566 2253 904 1 1572 2257
def dR:Obj:=fO "counts" "Machine.counts" (fB (lB 67) 24) (s EC 2025) (.ref 1577)
def eR:Obj:=cQ' 478762002804 8831600137945418273331207234126 2269 910 4 1586 2278
def fR:Obj:=fO "shown" "Machine.shown" (fB (lB 67) 26) (s EC 2025) (.ref 1591)
def gR (P:Params):Obj:=dO 4 [e P xC 2045 (s EC 2025),e P yC 2049 (.int (818) 2048),e P LC 2061 (.ref 1411),e P ML 2069 (.ref 1418),e P 1819504743 2077 (.ref 1425),e P WN 2085 (.ref 1432),e P NL 2094 (.ref 1439),e P XN 2102 (.ref 1446),e P 8020589 2116 (.ref 1454),e P 1969711725 2126 (.ref 1461),e P xG 2137 (.ref 1468),e P 1700947571 2147 (.ref 1475),e P 440056574840 2158 (.ref 1482),e P 1701671015 2165 (.ref 1489),e P OL 2172 (.ref 1496),e P PL 2179 (.ref 1503),e P QL 2187 (.ref 1510),e P 34449212995692148 2193 (.ref 1515),e P qF 2200 (.ref 1522),e P BE 2208 (.ref 1529),e P yD 2216 (.ref 1536),e P DE 2224 (.ref 1543),e P EE 2231 (.ref 1550),e P sF 2238 (.ref 1557),e P tF 2245 (.ref 1564),e P rF 2252 (.ref 1571),e P 128047730028644 2259 (.ref 1578),e P 2054967305178637165169 2268 (.ref 1585),e P 478762002804 2280 (.ref 1592),e P 452655736435 2292 (.ref 1599),e P 2137612479819999128755718571845235 2305 (.ref 1606),e P zC 2309 (.ref 1607),e P qE 2311 (.ref 1610),e P aE 2313 (.ref 1611),e P z1 2314 .none]
def hR:Obj:=kP' "Machine" [(.type "object")] [.ref 1609,(.type "object")] 1608 [] zS 2038 zS 2046
def iR:Obj:=cQ' AS AS 2319 929 1 1614 2325
def jR:Obj:=fP' "power_of_two" (lB 69) (s uF 2317) 1619
def kR:Obj:=cQ' BS BS 2328 934 3 1621 2334
def lR:Obj:=fP' "check_measures" (lB 70) (s uF 2317) 1626
def mR:Obj:=cQ' LC 1954753563970360692704735932868948 2349 943 4 1635 2356
def nR:Obj:=fO "__init__" "Shape.__init__" (fB (lB 71) 0) (s uF 2317) (.ref 1640)
def oR:Obj:=cQ' 483958001635892750870900 136222067239398530400517607478345754964 2359 952 1 1642 2363
def pR:Obj:=fO "sheet_size" "Shape.sheet_size" (fB (lB 71) 1) (s uF 2317) (.ref 1647)
def qR:Obj:=cQ' 29115481938485873 8195279600554836563607700007252 2425 989 2 1698 2432
def rR:Obj:=fO "page_of" "Shape.page_of" (fB (lB 71) 9) (s uF 2317) (.ref 1703)
def sR (P:Params):Obj:=dO 4 [e P xC 2344 (s uF 2317),e P yC 2348 (.int (941) 2347),e P LC 2358 (.ref 1641),e P 483958001635892750870900 2365 (.ref 1648),e P 554573001519589315076721 2372 (.ref 1655),e P 7379256228535624297 2380 (.ref 1662),e P 483606936193276347574628 2388 (.ref 1669),e P 140785079470369141693899369 2396 (.ref 1676),e P 111490731565681 2404 (.ref 1683),e P 32779080669947234 2413 (.ref 1690),e P 500118746484 2424 (.ref 1697),e P 29115481938485873 2434 (.ref 1704),e P 1953852007 2443 (.ref 1711),e P zC 2450 (.ref 1712),e P qE 2452 (.ref 1715),e P aE 2454 (.ref 1716),e P z1 2455 .none]
def tR:Obj:=kP' "Shape" [(.type "object")] [.ref 1714,(.type "object")] 1713 [] 439988939092 2337 439988939092 2345
def uR:Obj:=cQ' CS CS 2460 1002 2 1719 2465
def vR:Obj:=fP' "_law_cell_at" (lB 73) (s z0 2458) 1724
def wR:Obj:=cQ' DS DS 2468 1006 2 1726 2474
def xR:Obj:=fP' "_law_like" (lB 74) (s z0 2458) 1731
def yR:Obj:=cQ' ES ES 2477 1025 2 1733 2484
def zR:Obj:=fP' "_law_size" (lB 75) (s z0 2458) 1738
def AR:Obj:=cQ' FS FS 2487 1033 1 1740 2492
def BR:Obj:=fP' "_law_word" (lB 76) (s z0 2458) 1745
def DR:Obj:=cQ' GS GS 2495 1042 3 1747 2502
def ER:Obj:=fP' "_law_told_of" (lB 77) (s z0 2458) 1752
def FR:Obj:=cQ' HS HS 2505 1055 3 1754 2513
def GR:Obj:=fP' "_law_none" (lB 78) (s z0 2458) 1759
def HR:Obj:=cQ' IS IS 2516 1063 2 1761 2522
def IR:Obj:=fP' "_law_new" (lB 79) (s z0 2458) 1766
def JR:Obj:=cQ' 7889517 7889517 2525 1069 1 1768 2536
def KR:Obj:=fP' "law" (lB 80) (s z0 2458) 1773
def Kf:Params->W.Frag:=λP=>#[3,o3 P,72,yW P,73,zW,85,AW P,86,BW,97,CW P,98,DW,121,YK P,122,ZK,133,aL P,134,bL,145,cL P,146,dL,202,eL,203,fL,209,gL,210,iL,223,jL,224,kL,230,lL,231,mL,265,nL,266,pL,334,qL,335,rL,368,sL P,369,tL,379,jO,380,kO,393,lO,394,mO,400,nO,401,oO,421,pO,422,qO,464,rO,465,sO,471,uO,472,vO,485,wO,486,xO,504,yO,505,zO,511,AO,512,BO,518,CO,519,DO,535,EO P,536,FO,560,GO,561,JO,602,KO,603,LO,610,MO P,611,NO,640,OO,641,PO,647,QO,648,RO,661,SO,662,UO,687,VO,688,WO,694,XO,695,YO,704,ZO P,705,aP,722,bP,723,cP,729,dP,730,eP,743,fP,744,gP,799,iP,800,jP,806,kP,807,lP,813,mP,814,nP,820,oP,821,pP,823,qP P,824,rP,848,sP,849,tP,858,uP P,859,vP,876,wP,877,xP,895,yP,896,zP,898,BP P,899,CP,916,EW,917,FW,965,GW,966,HW,993,IW,994,JW,1007,DP,1008,FP,1014,GP,1015,HP,1019,IP,1020,JP,1026,KP,1027,LP,1047,MP,1048,NP,1092,OP P,1093,PP,1117,QP,1118,RP,1124,UP,1125,VP,1138,WP,1139,ZP,1215,aQ,1216,bQ,1222,cQ,1223,dQ,1229,eQ,1230,fQ,1236,gQ,1237,iQ,1243,jQ,1244,kQ,1250,lQ,1251,mQ,1257,nQ,1258,oQ,1264,pQ,1265,qQ,1271,rQ,1272,sQ,1384,tQ P,1385,uQ,1395,vQ,1396,wQ,1404,xQ,1410,yQ,1411,zQ,1417,AQ,1418,BQ,1438,CQ,1439,DQ,1495,EQ,1496,FQ,1502,GQ,1503,HQ,1509,IQ,1510,JQ,1514,KQ,1515,LQ,1521,MQ,1522,NQ,1528,OQ,1529,PQ,1535,QQ,1536,RQ,1542,SQ,1543,TQ,1549,UQ,1550,VQ,1556,WQ,1557,XQ,1563,YQ,1564,ZQ,1570,aR,1571,bR,1577,cR,1578,dR,1591,eR,1592,fR,1608,gR P,1609,hR,1619,iR,1620,jR,1626,kR,1627,lR,1640,mR,1641,nR,1647,oR,1648,pR,1703,qR,1704,rR,1713,sR P,1714,tR,1724,uR,1725,vR,1731,wR,1732,xR,1738,yR,1739,zR,1745,AR,1746,BR,1752,DR,1753,ER,1759,FR,1760,GR,1766,HR,1767,IR,1773,JR,1774,KR]
def Kc (P:Params):!(Option Obj):=(Kf P).map λp=>some p.2
def yG:!Addr:=[3,72,73,85,86,97,98,121,122,133,134,145,146,202,203,209,210,223,224,230,231,265,266,334,335,368,369,379,380,393,394,400,401,421,422,464,465,471,472,485,486,504,505,511,512,518,519,535,536,560,561,602,603,610,611,640,641,647,648,661,662,687,688,694,695,704,705,722,723,729,730,743,744,799,800,806,807,813,814,820,821,823,824,848,849,858,859,876,877,895,896,898,899,916,917,965,966,993,994,1007,1008,1014,1015,1019,1020,1026,1027,1047,1048,1092,1093,1117,1118,1124,1125,1138,1139,1215,1216,1222,1223,1229,1230,1236,1237,1243,1244,1250,1251,1257,1258,1264,1265,1271,1272,1384,1385,1395,1396,1404,1410,1411,1417,1418,1438,1439,1495,1496,1502,1503,1509,1510,1514,1515,1521,1522,1528,1529,1535,1536,1542,1543,1549,1550,1556,1557,1563,1564,1570,1571,1577,1578,1591,1592,1608,1609,1619,1620,1626,1627,1640,1641,1647,1648,1703,1704,1713,1714,1724,1725,1731,1732,1738,1739,1745,1746,1752,1753,1759,1760,1766,1767,1773,1774]
def _root_.PySem.W.Fast.tw2978598463251682248:Params->W.Frag:=Kf
theorem _root_.PySem.W.Fast.te2978598463251682248:@Eq (Params->W.Frag) Kf _root_.PySem.W.Fast.tw2978598463251682248:=rfl
def _root_.PySem.W.Fast.tw178197174607172993:!Addr:=yG
theorem _root_.PySem.W.Fast.te178197174607172993:@Eq (!Addr) yG _root_.PySem.W.Fast.tw178197174607172993:=rfl
theorem LR (P:Params):yG=(Kf P).map (·.1):=by kernel_rfl
theorem MR (P:Params):Kc P=(Kf P).map λp=>some p.2:=rfl
def vw:Program:=W.view PySem.Challenge.pw_frameland_k79_machine_sizes [80]
def lo:!Str:=S z8::S pI::S qI::S sI::S tI::S uI::S vI::S wI::S xI::S yI::S zI::S AI::S BI::S CI::S DI::S PK::S QK::S RK::S SK::S TK::S UK::S WK::S 29115482190672244::S yS::S AS::S BS::S CS::S DS::S ES::S FS::S GS::S HS::S IS::S mH::S EI::S FI::S GI::S HI::S II::S JI::S 128047577983316::S 126883826394700::S zS::S 439988939092::S ZG::S aH::S bH::S cH::S dH::S fH::S gH::S iH::S jH::S kH::S lH::S 1161971283::S 302078645080::S 1431389772::S 1330005588::S z9::S wS::S xS::S xW::S 22674925647089541482707963982::[]
def pB:Obj:=tO []
def BB:Obj:=(.none,none,.fields ⟨[]⟩, #[])
def ZS:Obj:=cR' 4568459227289382461 4568459227289382461 182 1 11 185
def aT:Obj:=((.type "frame"),none,.plain, #[(some (.ref 13)),(some (.ref 3)),(some (.ref 3)),none,(some (s 6944673128113922144 164)),none,(some (.ref 0))])
section
variable (P:Params)
def rg:W.BT:=.node (W.boot_o_7 P) .nil .nil
def sg (P:Params):W.BT:=.node pB .nil .nil
def ug:W.BT:=.node (W.boot_o_9 P) .nil .nil
def vg (P:Params):W.BT:=.node ZS .nil .nil
def wg:W.BT:=.node (W.boot_o_8 P) .nil .nil
def xg (P:Params):W.BT:=.node BB .nil .nil
def yg:W.BT:=.node (W.boot_o_10 P) .nil .nil
def zg (P:Params):W.BT:=.node aT .nil .nil
def Rg:W.BT:=.node (W.boot_o_0 P) (.node (W.boot_o_1 P) (.node (W.boot_o_3 P) (rg P) (sg P)) (.node (W.boot_o_5 P) (ug P) (vg P))) (.node (W.boot_o_2 P) (.node (W.boot_o_4 P) (wg P) (xg P)) (.node (W.boot_o_6 P) (yg P) (zg P)))
end
def RL (w:World) (os:OsState):W.SharedT:=(Rg w.params,15,(W.boot_heap w.params).life, #[],W.boot_drawn,187,os)
def _root_.PySem.W.Fast.tw14493010579495800908:World->OsState->W.SharedT:=RL
theorem _root_.PySem.W.Fast.te14493010579495800908:@Eq (World->OsState->W.SharedT) RL _root_.PySem.W.Fast.tw14493010579495800908:=rfl
section
variable (P:Params)
def Sg:W.BT:=.node (W.boot_o_7 P) .nil .nil
def Tg (P:Params):W.BT:=.node pB .nil .nil
def Ug:W.BT:=.node (W.boot_o_9 P) .nil .nil
def Vg (P:Params):W.BT:=.node ZS .nil .nil
def Wg:W.BT:=.node (W.boot_o_8 P) .nil .nil
def Xg (P:Params):W.BT:=.node BB .nil .nil
def Yg:W.BT:=.node (W.boot_o_10 P) .nil .nil
def Zg (P:Params):W.BT:=.node aT .nil .nil
def bh:W.BT:=.node (W.boot_o_0 P) (.node (W.boot_o_1 P) (.node (W.boot_o_3 P) (Sg P) (Tg P)) (.node (W.boot_o_5 P) (Ug P) (Vg P))) (.node (W.boot_o_2 P) (.node (W.boot_o_4 P) (Wg P) (Xg P)) (.node (W.boot_o_6 P) (Yg P) (Zg P)))
end
def SL (w:World) (os:OsState):W.SharedT:=(bh w.params,15,(W.boot_heap w.params).life, #[],W.boot_drawn,187,os)
def _root_.PySem.W.Fast.tw4081698580280887237:World->OsState->W.SharedT:=SL
theorem _root_.PySem.W.Fast.te4081698580280887237:@Eq (World->OsState->W.SharedT) SL _root_.PySem.W.Fast.tw4081698580280887237:=rfl
def uL (P:Params):Obj:=dO 43 [e P 6944663249689206880 165 (s qD 452),e P z1 166 .none,e P z2 167 .none,e P z3 168 (.builtin "__main__.__loader__#opaque"),e P 6944661016558198880 169 .none,e P z4 170 (.ref 6),e P z5 171 (.ref 4),e P 6944663245527933024 173 (s z6 172),e P z7 174 .none,e P z8 193 (.ref 21),e P 1161971283 197 (.int (1) 196),e P 302078645080 199 (.int (2) 198),e P 1431389772 201 (.int (4) 200),e P 1330005588 203 (.int (8) 202),e P z9 205 (.int (16) 204),e P wS 207 (.int (32) 206),e P pI 215 (.ref 28),e P qI 222 (.ref 35),e P sI 229 (.ref 42),e P tI 237 (.ref 49),e P uI 245 (.ref 56),e P vI 253 (.ref 63),e P ZG 273 (.ref 73),e P aH 289 (.ref 86),e P bH 305 (.ref 98),e P cH 321 (.ref 110),e P dH 337 (.ref 122),e P fH 353 (.ref 134),e P gH 369 (.ref 146),e P iH 385 (.ref 158),e P jH 401 (.ref 170),e P kH 417 (.ref 182),e P lH 433 (.ref 194),e P wI 442 (.ref 203),e P xI 451 (.ref 210),e P xS 455 (.int (3) 454),e P yI 462 (.ref 217),e P zI 469 (.ref 224),e P AI 478 (.ref 231),e P BI 488 (.ref 238),e P CI 496 (.ref 245),e P DI 506 (.ref 252),e P mH 660 (.ref 369)]
def eh:Obj:=(.none,none,.fields ⟨[i 1,i 0,.ref 20,i 11,i 0,.ref 27,i 13,i 0,.ref 34,i 15,i 0,.ref 41,i 17,i 0,.ref 48,i 19,i 0,.ref 55,i 21,i 0,.ref 62,i 24,i 0,.ref 69,i 26,i 0,.ref 82,i 28,i 0,.ref 94,i 30,i 0,.ref 106,i 32,i 0,.ref 118,i 34,i 0,.ref 130,i 36,i 0,.ref 142,i 38,i 0,.ref 154,i 40,i 0,.ref 166,i 42,i 0,.ref 178,i 44,i 0,.ref 190,i 47,i 0,.ref 202,i 49,i 0,.ref 209,i 53,i 0,.ref 216,i 56,i 0,.ref 223,i 58,i 0,.ref 230,i 63,i 0,.ref 237,i 66,i 0,.ref 244,i 68,i 0,.ref 251,i 77,i 0,.ref 258]⟩, #[])
def mZ:Obj:=tO [s 108 190]
def nZ:Obj:=(.none,none,.func {name:=(S z8),qualname:=(S z8),params:=kB (lB 0),body:=.stmts (jB (lB 0)),scope:=iB (lB 0),globals:=0,closure:=[],defaults:=.none,kwdefaults:=.none,doc:=.none,pyModule:=.none,annotations:=none,code:=.none,closureTuple:=.none,builtins:=0}, #[])
def oZ:Obj:=cQ' z8 z8 187 1 1 15 191
def pZ:Obj:=fP' "_wall" (lB 0) (s 6944673128113922144 164) 20
def qZ:Obj:=tO [s VE 211,s 1953852003 212]
def rZ:Obj:=(.none,none,.func {name:=(S pI),qualname:=(S pI),params:=kB (lB 8),body:=.stmts (jB (lB 8)),scope:=iB (lB 8),globals:=0,closure:=[],defaults:=.none,kwdefaults:=.none,doc:=.none,pyModule:=.none,annotations:=none,code:=.none,closureTuple:=.none,builtins:=0}, #[])
def sZ:Obj:=cQ' pI pI 208 11 2 22 213
def tZ:Obj:=fP' "entry_of" (lB 8) (s vF 194) 27
def uZ:Obj:=tO [s TD 219]
def vZ:Obj:=(.none,none,.func {name:=(S qI),qualname:=(S qI),params:=kB (lB 9),body:=.stmts (jB (lB 9)),scope:=iB (lB 9),globals:=0,closure:=[],defaults:=.none,kwdefaults:=.none,doc:=.none,pyModule:=.none,annotations:=none,code:=.none,closureTuple:=.none,builtins:=0}, #[])
def wZ:Obj:=cQ' qI qI 216 13 1 29 220
def xZ:Obj:=fP' "place_of" (lB 9) (s vF 194) 34
def yZ:Obj:=tO [s TD 226]
def zZ:Obj:=(.none,none,.func {name:=(S sI),qualname:=(S sI),params:=kB (lB 10),body:=.stmts (jB (lB 10)),scope:=iB (lB 10),globals:=0,closure:=[],defaults:=.none,kwdefaults:=.none,doc:=.none,pyModule:=.none,annotations:=none,code:=.none,closureTuple:=.none,builtins:=0}, #[])
def AZ:Obj:=cQ' sI sI 223 15 1 36 227
def BZ:Obj:=fP' "bits_of" (lB 10) (s vF 194) 41
def CZ:Obj:=tO [s TD 233,s 1953852003 234]
def DZ:Obj:=(.none,none,.func {name:=(S tI),qualname:=(S tI),params:=kB (lB 11),body:=.stmts (jB (lB 11)),scope:=iB (lB 11),globals:=0,closure:=[],defaults:=.none,kwdefaults:=.none,doc:=.none,pyModule:=.none,annotations:=none,code:=.none,closureTuple:=.none,builtins:=0}, #[])
def EZ:Obj:=cQ' tI tI 230 17 2 43 235
def FZ:Obj:=fP' "has_bits" (lB 11) (s vF 194) 48
def GZ:Obj:=tO [s TD 241,s 1953852003 242]
def HZ:Obj:=(.none,none,.func {name:=(S uI),qualname:=(S uI),params:=kB (lB 12),body:=.stmts (jB (lB 12)),scope:=iB (lB 12),globals:=0,closure:=[],defaults:=.none,kwdefaults:=.none,doc:=.none,pyModule:=.none,annotations:=none,code:=.none,closureTuple:=.none,builtins:=0}, #[])
def IZ:Obj:=cQ' uI uI 238 19 2 50 243
def JZ:Obj:=fP' "with_bits" (lB 12) (s vF 194) 55
def KZ:Obj:=tO [s TD 249,s 1953852003 250]
def LZ:Obj:=(.none,none,.func {name:=(S vI),qualname:=(S vI),params:=kB (lB 13),body:=.stmts (jB (lB 13)),scope:=iB (lB 13),globals:=0,closure:=[],defaults:=.none,kwdefaults:=.none,doc:=.none,pyModule:=.none,annotations:=none,code:=.none,closureTuple:=.none,builtins:=0}, #[])
def MZ:Obj:=cQ' vI vI 246 21 2 57 251
def NZ:Obj:=fP' "without_bits" (lB 13) (s vF 194) 62
def OZ:Obj:=((.type "tuple"),none,.seq #[(.type "ValueError")] 0, #[])
def eD:Obj:=((.type "builtin_function_or_method"),none,.fields ⟨[(.builtin "type.__prepare__"),(.type "type")]⟩, #[])
def PZ (P:Params):Obj:=dO 4 [e P xC 263 (s SC 254),e P JC 265 (s ZG 264),e P yC 267 (.int (24) 266),e P zC 268 (.ref 71)]
def QZ:Obj:=cR' ZG ZG 258 24 67 261
def RZ:Obj:=((.type "frame"),none,.plain, #[(some (.ref 69)),(some (.ref 3)),(some (.ref 66)),none,(some (s SC 254)),none,(some (.ref 0))])
def fD:Obj:=((.type "tuple"),none,.seq #[] 0, #[])
def SZ:Obj:=((.type "getset_descriptor"),none,.fields ⟨[s aE 269,.ref 73,(.builtin "ExceptionGroup.__weakref__"),.none]⟩, #[])
def TZ:Obj:=((.type "super"),none,.fields ⟨[.ref 73,.ref 73,.ref 73]⟩, #[])
def UZ:Obj:=((.type "builtin_function_or_method"),none,.fields ⟨[(.builtin "object.__init_subclass__"),.ref 73]⟩, #[])
def bE:Obj:=((.type "tuple"),none,.seq #[.ref 73] 0, #[])
def VZ (P:Params):Obj:=dO 4 [e P xC 281 (s SC 254),e P JC 283 (s aH 282),e P yC 285 (.int (26) 284),e P zC 286 (.ref 84)]
def WZ:Obj:=cR' aH aH 276 26 80 279
def XZ:Obj:=((.type "frame"),none,.plain, #[(some (.ref 82)),(some (.ref 3)),(some (.ref 79)),none,(some (s SC 254)),none,(some (.ref 0))])
def YZ:Obj:=((.type "super"),none,.fields ⟨[.ref 86,.ref 86,.ref 86]⟩, #[])
def ZZ:Obj:=((.type "builtin_function_or_method"),none,.fields ⟨[(.builtin "object.__init_subclass__"),.ref 86]⟩, #[])
def b0 (P:Params):Obj:=dO 4 [e P xC 297 (s SC 254),e P JC 299 (s bH 298),e P yC 301 (.int (28) 300),e P zC 302 (.ref 96)]
def d0:Obj:=cR' bH bH 292 28 92 295
def i0:Obj:=((.type "frame"),none,.plain, #[(some (.ref 94)),(some (.ref 3)),(some (.ref 91)),none,(some (s SC 254)),none,(some (.ref 0))])
def l0:Obj:=((.type "super"),none,.fields ⟨[.ref 98,.ref 98,.ref 98]⟩, #[])
def o0:Obj:=((.type "builtin_function_or_method"),none,.fields ⟨[(.builtin "object.__init_subclass__"),.ref 98]⟩, #[])
def p0 (P:Params):Obj:=dO 4 [e P xC 313 (s SC 254),e P JC 315 (s cH 314),e P yC 317 (.int (30) 316),e P zC 318 (.ref 108)]
def q0:Obj:=cR' cH cH 308 30 104 311
def r0:Obj:=((.type "frame"),none,.plain, #[(some (.ref 106)),(some (.ref 3)),(some (.ref 103)),none,(some (s SC 254)),none,(some (.ref 0))])
def t0 (P:Params):Obj:=dO 2 [e P xC 313 (s SC 254),e P yC 317 (.int (30) 316),e P zC 318 (.ref 108),e P z1 319 .none]
def u0:Obj:=((.type "type"),none,.cls {name:=(Str.ofString "BadRights"),bases:=[.ref 73],mro:=[.ref 110,.ref 73,(.type "ValueError"),(.type "Exception"),(.type "BaseException"),(.type "object")],ns:=109,qualname:=(Str.ofString "BadRights"),hasDict:=true,slotNames:=[],subclasses:=[],abstract:=false,collection:=none,hasDel:=false}, #[(some (.ref 101)),none,(some (s cH 306)),(some (s cH 314)),(some (.builtin "ValueError.__new__")),(some (.bool true))])
def x0:Obj:=((.type "super"),none,.fields ⟨[.ref 110,.ref 110,.ref 110]⟩, #[])
def y0:Obj:=((.type "builtin_function_or_method"),none,.fields ⟨[(.builtin "object.__init_subclass__"),.ref 110]⟩, #[])
def Q0 (P:Params):Obj:=dO 4 [e P xC 329 (s SC 254),e P JC 331 (s dH 330),e P yC 333 (.int (32) 332),e P zC 334 (.ref 120)]
def S0:Obj:=cR' dH dH 324 32 116 327
def T0:Obj:=((.type "frame"),none,.plain, #[(some (.ref 118)),(some (.ref 3)),(some (.ref 115)),none,(some (s SC 254)),none,(some (.ref 0))])
def U0:Obj:=((.type "super"),none,.fields ⟨[.ref 122,.ref 122,.ref 122]⟩, #[])
def V0:Obj:=((.type "builtin_function_or_method"),none,.fields ⟨[(.builtin "object.__init_subclass__"),.ref 122]⟩, #[])
def W0 (P:Params):Obj:=dO 4 [e P xC 345 (s SC 254),e P JC 347 (s fH 346),e P yC 349 (.int (34) 348),e P zC 350 (.ref 132)]
def X0:Obj:=cR' fH fH 340 34 128 343
def Y0:Obj:=((.type "frame"),none,.plain, #[(some (.ref 130)),(some (.ref 3)),(some (.ref 127)),none,(some (s SC 254)),none,(some (.ref 0))])
def Z0:Obj:=((.type "super"),none,.fields ⟨[.ref 134,.ref 134,.ref 134]⟩, #[])
def u1:Obj:=((.type "builtin_function_or_method"),none,.fields ⟨[(.builtin "object.__init_subclass__"),.ref 134]⟩, #[])
def y1 (P:Params):Obj:=dO 4 [e P xC 361 (s SC 254),e P JC 363 (s gH 362),e P yC 365 (.int (36) 364),e P zC 366 (.ref 144)]
def Q1:Obj:=cR' gH gH 356 36 140 359
def S1:Obj:=((.type "frame"),none,.plain, #[(some (.ref 142)),(some (.ref 3)),(some (.ref 139)),none,(some (s SC 254)),none,(some (.ref 0))])
def T1:Obj:=((.type "super"),none,.fields ⟨[.ref 146,.ref 146,.ref 146]⟩, #[])
def U1:Obj:=((.type "builtin_function_or_method"),none,.fields ⟨[(.builtin "object.__init_subclass__"),.ref 146]⟩, #[])
def V1 (P:Params):Obj:=dO 4 [e P xC 377 (s SC 254),e P JC 379 (s iH 378),e P yC 381 (.int (38) 380),e P zC 382 (.ref 156)]
def W1:Obj:=cR' iH iH 372 38 152 375
def X1:Obj:=((.type "frame"),none,.plain, #[(some (.ref 154)),(some (.ref 3)),(some (.ref 151)),none,(some (s SC 254)),none,(some (.ref 0))])
def Y1 (P:Params):Obj:=dO 2 [e P xC 377 (s SC 254),e P yC 381 (.int (38) 380),e P zC 382 (.ref 156),e P z1 383 .none]
def Z1:Obj:=((.type "type"),none,.cls {name:=(Str.ofString "Taken"),bases:=[.ref 73],mro:=[.ref 158,.ref 73,(.type "ValueError"),(.type "Exception"),(.type "BaseException"),(.type "object")],ns:=157,qualname:=(Str.ofString "Taken"),hasDict:=true,slotNames:=[],subclasses:=[],abstract:=false,collection:=none,hasDel:=false}, #[(some (.ref 149)),none,(some (s iH 370)),(some (s iH 378)),(some (.builtin "ValueError.__new__")),(some (.bool true))])
def u2:Obj:=((.type "super"),none,.fields ⟨[.ref 158,.ref 158,.ref 158]⟩, #[])
def y2:Obj:=((.type "builtin_function_or_method"),none,.fields ⟨[(.builtin "object.__init_subclass__"),.ref 158]⟩, #[])
def Q2 (P:Params):Obj:=dO 4 [e P xC 393 (s SC 254),e P JC 395 (s jH 394),e P yC 397 (.int (40) 396),e P zC 398 (.ref 168)]
def S2:Obj:=cR' jH jH 388 40 164 391
def T2:Obj:=((.type "frame"),none,.plain, #[(some (.ref 166)),(some (.ref 3)),(some (.ref 163)),none,(some (s SC 254)),none,(some (.ref 0))])
def U2 (P:Params):Obj:=dO 2 [e P xC 393 (s SC 254),e P yC 397 (.int (40) 396),e P zC 398 (.ref 168),e P z1 399 .none]
def V2:Obj:=((.type "type"),none,.cls {name:=(Str.ofString "NotMapped"),bases:=[.ref 73],mro:=[.ref 170,.ref 73,(.type "ValueError"),(.type "Exception"),(.type "BaseException"),(.type "object")],ns:=169,qualname:=(Str.ofString "NotMapped"),hasDict:=true,slotNames:=[],subclasses:=[],abstract:=false,collection:=none,hasDel:=false}, #[(some (.ref 161)),none,(some (s jH 386)),(some (s jH 394)),(some (.builtin "ValueError.__new__")),(some (.bool true))])
def W2:Obj:=((.type "super"),none,.fields ⟨[.ref 170,.ref 170,.ref 170]⟩, #[])
def X2:Obj:=((.type "builtin_function_or_method"),none,.fields ⟨[(.builtin "object.__init_subclass__"),.ref 170]⟩, #[])
def Y2 (P:Params):Obj:=dO 4 [e P xC 409 (s SC 254),e P JC 411 (s kH 410),e P yC 413 (.int (42) 412),e P zC 414 (.ref 180)]
def Z2:Obj:=cR' kH kH 404 42 176 407
def i3:Obj:=((.type "frame"),none,.plain, #[(some (.ref 178)),(some (.ref 3)),(some (.ref 175)),none,(some (s SC 254)),none,(some (.ref 0))])
def j3 (P:Params):Obj:=dO 2 [e P xC 409 (s SC 254),e P yC 413 (.int (42) 412),e P zC 414 (.ref 180),e P z1 415 .none]
def m3:Obj:=((.type "type"),none,.cls {name:=(Str.ofString "NoRight"),bases:=[.ref 73],mro:=[.ref 182,.ref 73,(.type "ValueError"),(.type "Exception"),(.type "BaseException"),(.type "object")],ns:=181,qualname:=(Str.ofString "NoRight"),hasDict:=true,slotNames:=[],subclasses:=[],abstract:=false,collection:=none,hasDel:=false}, #[(some (.ref 173)),none,(some (s kH 402)),(some (s kH 410)),(some (.builtin "ValueError.__new__")),(some (.bool true))])
def u3:Obj:=((.type "super"),none,.fields ⟨[.ref 182,.ref 182,.ref 182]⟩, #[])
def y3:Obj:=((.type "builtin_function_or_method"),none,.fields ⟨[(.builtin "object.__init_subclass__"),.ref 182]⟩, #[])
def Q3 (P:Params):Obj:=dO 4 [e P xC 425 (s SC 254),e P JC 427 (s lH 426),e P yC 429 (.int (44) 428),e P zC 430 (.ref 192)]
def S3:Obj:=cR' lH lH 420 44 188 423
def T3:Obj:=((.type "frame"),none,.plain, #[(some (.ref 190)),(some (.ref 3)),(some (.ref 187)),none,(some (s SC 254)),none,(some (.ref 0))])
def U3 (P:Params):Obj:=dO 2 [e P xC 425 (s SC 254),e P yC 429 (.int (44) 428),e P zC 430 (.ref 192),e P z1 431 .none]
def V3:Obj:=((.type "type"),none,.cls {name:=(Str.ofString "NoRoom"),bases:=[.ref 73],mro:=[.ref 194,.ref 73,(.type "ValueError"),(.type "Exception"),(.type "BaseException"),(.type "object")],ns:=193,qualname:=(Str.ofString "NoRoom"),hasDict:=true,slotNames:=[],subclasses:=[],abstract:=false,collection:=none,hasDel:=false}, #[(some (.ref 185)),none,(some (s lH 418)),(some (s lH 426)),(some (.builtin "ValueError.__new__")),(some (.bool true))])
def W3:Obj:=((.type "super"),none,.fields ⟨[.ref 194,.ref 194,.ref 194]⟩, #[])
def X3:Obj:=((.type "builtin_function_or_method"),none,.fields ⟨[(.builtin "object.__init_subclass__"),.ref 194]⟩, #[])
def Y3:Obj:=tO [s 448545843573 439]
def Z3:Obj:=(.none,none,.func {name:=(S wI),qualname:=(S wI),params:=kB (lB 27),body:=.stmts (jB (lB 27)),scope:=iB (lB 27),globals:=0,closure:=[],defaults:=.none,kwdefaults:=.none,doc:=.none,pyModule:=.none,annotations:=none,code:=.none,closureTuple:=.none,builtins:=0}, #[])
def c4:Obj:=tO [s 448545843573 446,s 7893101 447,s 1768450665 448]
def d4:Obj:=(.none,none,.func {name:=(S xI),qualname:=(S xI),params:=kB (lB 28),body:=.stmts (jB (lB 28)),scope:=iB (lB 28),globals:=0,closure:=[],defaults:=.none,kwdefaults:=.none,doc:=.none,pyModule:=.none,annotations:=none,code:=.none,closureTuple:=.none,builtins:=0}, #[])
def i4:Obj:=tO [s wF 459]
def j4:Obj:=(.none,none,.func {name:=(S yI),qualname:=(S yI),params:=kB (lB 31),body:=.stmts (jB (lB 31)),scope:=iB (lB 31),globals:=0,closure:=[],defaults:=.none,kwdefaults:=.none,doc:=.none,pyModule:=.none,annotations:=none,code:=.none,closureTuple:=.none,builtins:=0}, #[])
def m4:Obj:=cQ' yI yI 456 53 1 211 460
def n4:Obj:=fP' "check_rights" (lB 31) (s qD 452) 216
def o4:Obj:=tO [s 7304819 466]
def t4:Obj:=(.none,none,.func {name:=(S zI),qualname:=(S zI),params:=kB (lB 32),body:=.stmts (jB (lB 32)),scope:=iB (lB 32),globals:=0,closure:=[],defaults:=.none,kwdefaults:=.none,doc:=.none,pyModule:=.none,annotations:=none,code:=.none,closureTuple:=.none,builtins:=0}, #[])
def u4:Obj:=tO [s 7304819 473,s KC 474,s 6711925 475]
def w4:Obj:=(.none,none,.func {name:=(S AI),qualname:=(S AI),params:=kB (lB 33),body:=.stmts (jB (lB 33)),scope:=iB (lB 33),globals:=0,closure:=[],defaults:=.none,kwdefaults:=.none,doc:=.none,pyModule:=.none,annotations:=none,code:=.none,closureTuple:=.none,builtins:=0}, #[])
def y4:Obj:=tO [s 7304819 482,s 7893101 483,s 1768450665 484,s UD 485]
def Q4:Obj:=(.none,none,.func {name:=(S BI),qualname:=(S BI),params:=kB (lB 34),body:=.stmts (jB (lB 34)),scope:=iB (lB 34),globals:=0,closure:=[],defaults:=.none,kwdefaults:=.none,doc:=.none,pyModule:=.none,annotations:=none,code:=.none,closureTuple:=.none,builtins:=0}, #[])
def R4:Obj:=cQ' BI BI 479 63 3 232 486
def S4:Obj:=fP' "part_of" (lB 34) (s qD 452) 237
def T4:Obj:=tO [s 7304819 492,s 495640207981 493]
def U4:Obj:=(.none,none,.func {name:=(S CI),qualname:=(S CI),params:=kB (lB 35),body:=.stmts (jB (lB 35)),scope:=iB (lB 35),globals:=0,closure:=[],defaults:=.none,kwdefaults:=.none,doc:=.none,pyModule:=.none,annotations:=none,code:=.none,closureTuple:=.none,builtins:=0}, #[])
def V4:Obj:=cQ' CI CI 489 66 2 239 494
def W4:Obj:=fP' "goes_on" (lB 35) (s qD 452) 244
def X4:Obj:=tO [s 1953461875 500,s 495640405607 501,s 7304819 502,s 1970561645 503]
def Y4:Obj:=(.none,none,.func {name:=(S DI),qualname:=(S DI),params:=kB (lB 36),body:=.stmts (jB (lB 36)),scope:=iB (lB 36),globals:=0,closure:=[],defaults:=.none,kwdefaults:=.none,doc:=.none,pyModule:=.none,annotations:=none,code:=.none,closureTuple:=.none,builtins:=0}, #[])
def Z4:Obj:=cQ' DI DI 497 68 1 246 504
def c5:Obj:=fP' "joined" (lB 36) (s qD 452) 251
def d5 (P:Params):Obj:=dO 20 [e P xC 514 (s qD 452),e P JC 516 (s mH 515),e P yC 518 (.int (77) 517),e P LC 525 (.ref 266),e P 7698033 536 (.ref 274),e P 7698020 545 (.ref 281),e P xG 555 (.ref 288),e P JS 564 (.ref 295),e P KI 573 (.ref 302),e P LI 582 (.ref 309),e P KS 591 (.ref 316),e P VN 597 (.ref 321),e P LS 605 (.ref 328),e P nF 612 (.ref 335),e P 111490546888804 619 (.ref 342),e P MS 630 (.ref 349),e P NS 636 (.ref 354),e P OS 645 (.ref 361),e P QS 651 (.ref 366),e P zC 653 (.ref 367)]
def i5:Obj:=(.none,none,.fields ⟨[i 79,i 4,.ref 265,i 82,i 4,.ref 273,i 88,i 4,.ref 280,i 91,i 4,.ref 287,i 94,i 4,.ref 294,i 97,i 4,.ref 301,i 101,i 4,.ref 308,i 105,i 4,.ref 315,i 108,i 4,.ref 320,i 111,i 4,.ref 327,i 114,i 4,.ref 334,i 117,i 4,.ref 341,i 120,i 4,.ref 348,i 131,i 4,.ref 353,i 136,i 4,.ref 360,i 140,i 4,.ref 365]⟩, #[])
def j5:Obj:=cR' mH mH 509 77 256 512
def l5:Obj:=((.type "frame"),none,.plain, #[(some (.ref 258)),(some (.ref 3)),(some (.ref 255)),none,(some (s qD 452)),none,(some (.ref 0))])
def m5:Obj:=tO [s DB 522]
def n5:Obj:=(.none,none,.func {name:=(S LC),qualname:=(S 8395602628992143088491004079736651362039124),params:=kB (fB (lB 37) 0),body:=.stmts (jB (fB (lB 37) 0)),scope:=iB (fB (lB 37) 0),globals:=0,closure:=[],defaults:=.none,kwdefaults:=.none,doc:=.none,pyModule:=.none,annotations:=none,code:=.none,closureTuple:=.none,builtins:=0}, #[])
def o5:Obj:=((.type "tuple"),none,.seq #[.none] 0, #[])
def p5:Obj:=tO [s DB 529,s UD 530,s jD 531,s wF 532,s 6711925 533]
def u5:Obj:=(.none,none,.func {name:=(S 7698033),qualname:=(S 9306351078043889216994357245268),params:=kB (fB (lB 37) 1),body:=.stmts (jB (fB (lB 37) 1)),scope:=iB (fB (lB 37) 1),globals:=0,closure:=[],defaults:=.none,kwdefaults:=.none,doc:=.none,pyModule:=.none,annotations:=none,code:=.none,closureTuple:=.none,builtins:=0}, #[])
def x5:Obj:=cQ' 7698033 9306351078043889216994357245268 526 82 5 268 534
def Q5:Obj:=((.type "function"),none,.func (W.fnOf (Str.ofString "put") (Str.ofString "Stretches.put") (kB (fB (lB 37) 1)) (jB (fB (lB 37) 1)) (iB (fB (lB 37) 1)) (.ref 267) .none .none (s qD 452) none (.ref 273) .none), #[])
def R5:Obj:=tO [s DB 540,s UD 541,s jD 542]
def S5:Obj:=(.none,none,.func {name:=(S 7698020),qualname:=(S 9306335362008234226815086064980),params:=kB (fB (lB 37) 2),body:=.stmts (jB (fB (lB 37) 2)),scope:=iB (fB (lB 37) 2),globals:=0,closure:=[],defaults:=.none,kwdefaults:=.none,doc:=.none,pyModule:=.none,annotations:=none,code:=.none,closureTuple:=.none,builtins:=0}, #[])
def T5:Obj:=cQ' 7698020 9306335362008234226815086064980 537 88 3 275 543
def U5:Obj:=fO "cut" "Stretches.cut" (fB (lB 37) 2) (s qD 452) (.ref 280)
def V5:Obj:=tO [s DB 549,s UD 550,s jD 551,s wF 552]
def W5:Obj:=(.none,none,.func {name:=(S xG),qualname:=(S 526762260821547473070605117598954836),params:=kB (fB (lB 37) 3),body:=.stmts (jB (fB (lB 37) 3)),scope:=iB (fB (lB 37) 3),globals:=0,closure:=[],defaults:=.none,kwdefaults:=.none,doc:=.none,pyModule:=.none,annotations:=none,code:=.none,closureTuple:=.none,builtins:=0}, #[])
def X5:Obj:=cQ' xG 526762260821547473070605117598954836 546 91 4 282 553
def Y5:Obj:=fO "guard" "Stretches.guard" (fB (lB 37) 3) (s qD 452) (.ref 287)
def Z5:Obj:=tO [s DB 559,s UD 560,s jD 561]
def b6:Obj:=(.none,none,.func {name:=(S JS),qualname:=(S ZN),params:=kB (fB (lB 37) 4),body:=.stmts (jB (fB (lB 37) 4)),scope:=iB (fB (lB 37) 4),globals:=0,closure:=[],defaults:=.none,kwdefaults:=.none,doc:=.none,pyModule:=.none,annotations:=none,code:=.none,closureTuple:=.none,builtins:=0}, #[])
def c6:Obj:=cQ' JS ZN 556 94 3 289 562
def d6:Obj:=fO "check_full" "Stretches.check_full" (fB (lB 37) 4) (s qD 452) (.ref 294)
def i6:Obj:=tO [s DB 568,s KC 569,s 1970496113 570]
def j6:Obj:=(.none,none,.func {name:=(S KI),qualname:=(S aO),params:=kB (fB (lB 37) 5),body:=.stmts (jB (fB (lB 37) 5)),scope:=iB (fB (lB 37) 5),globals:=0,closure:=[],defaults:=.none,kwdefaults:=.none,doc:=.none,pyModule:=.none,annotations:=none,code:=.none,closureTuple:=.none,builtins:=0}, #[])
def l6:Obj:=cQ' KI aO 565 97 2 296 571
def m6:Obj:=fO "rights_at" "Stretches.rights_at" (fB (lB 37) 5) (s qD 452) (.ref 301)
def n6:Obj:=tO [s DB 577,s KC 578,s 1970496113 579]
def p6:Obj:=(.none,none,.func {name:=(S LI),qualname:=(S 156030475824513176713048584412386784596),params:=kB (fB (lB 37) 6),body:=.stmts (jB (fB (lB 37) 6)),scope:=iB (fB (lB 37) 6),globals:=0,closure:=[],defaults:=.none,kwdefaults:=.none,doc:=.none,pyModule:=.none,annotations:=none,code:=.none,closureTuple:=.none,builtins:=0}, #[])
def r6:Obj:=cQ' LI 156030475824513176713048584412386784596 574 101 2 303 580
def u6:Obj:=fO "tie_at" "Stretches.tie_at" (fB (lB 37) 6) (s qD 452) (.ref 308)
def v6:Obj:=tO [s DB 586,s UD 587,s jD 588]
def w6:Obj:=(.none,none,.func {name:=(S KS),qualname:=(S 34844981892374637606343691086821957268820),params:=kB (fB (lB 37) 7),body:=.stmts (jB (fB (lB 37) 7)),scope:=iB (fB (lB 37) 7),globals:=0,closure:=[],defaults:=.none,kwdefaults:=.none,doc:=.none,pyModule:=.none,annotations:=none,code:=.none,closureTuple:=.none,builtins:=0}, #[])
def x6:Obj:=cQ' KS 34844981892374637606343691086821957268820 583 105 3 310 589
def y6:Obj:=fO "is_free" "Stretches.is_free" (fB (lB 37) 7) (s qD 452) (.ref 315)
def Q6:Obj:=(.none,none,.func {name:=(S VN),qualname:=(S 37236278633682276866180525579755284821332),params:=kB (fB (lB 37) 8),body:=.stmts (jB (fB (lB 37) 8)),scope:=iB (fB (lB 37) 8),globals:=0,closure:=[],defaults:=.none,kwdefaults:=.none,doc:=.none,pyModule:=.none,annotations:=none,code:=.none,closureTuple:=.none,builtins:=0}, #[])
def R6:Obj:=cO [s VN 592,s 37236278633682276866180525579755284821332 593,s z6 594,i 108,i 3,i 0,i 0,i 3,.ref 317,(.bool true),i 181,.ref 318,.none,.none,.none,.ref 319,i 595,i 108,s z6 596]
def S6:Obj:=fO "is_full" "Stretches.is_full" (fB (lB 37) 8) (s qD 452) (.ref 320)
def T6:Obj:=tO [s DB 601,s VD 602]
def U6:Obj:=(.none,none,.func {name:=(S LS),qualname:=(S 34504653078735706780555045640184744080724),params:=kB (fB (lB 37) 9),body:=.stmts (jB (fB (lB 37) 9)),scope:=iB (fB (lB 37) 9),globals:=0,closure:=[],defaults:=.none,kwdefaults:=.none,doc:=.none,pyModule:=.none,annotations:=none,code:=.none,closureTuple:=.none,builtins:=0}, #[])
def V6:Obj:=cQ' LS 34504653078735706780555045640184744080724 598 111 2 322 603
def W6:Obj:=fO "is_tied" "Stretches.is_tied" (fB (lB 37) 9) (s qD 452) (.ref 327)
def X6:Obj:=tO [s DB 609]
def Y6:Obj:=(.none,none,.func {name:=(S nF),qualname:=(S 2057194043672392837723022735668564),params:=kB (fB (lB 37) 10),body:=.stmts (jB (fB (lB 37) 10)),scope:=iB (fB (lB 37) 10),globals:=0,closure:=[],defaults:=.none,kwdefaults:=.none,doc:=.none,pyModule:=.none,annotations:=none,code:=.none,closureTuple:=.none,builtins:=0}, #[])
def Z6:Obj:=tO [s DB 616]
def b7:Obj:=(.none,none,.func {name:=(S 111490546888804),qualname:=(S 134783800776830844550708368151093146964),params:=kB (fB (lB 37) 11),body:=.stmts (jB (fB (lB 37) 11)),scope:=iB (fB (lB 37) 11),globals:=0,closure:=[],defaults:=.none,kwdefaults:=.none,doc:=.none,pyModule:=.none,annotations:=none,code:=.none,closureTuple:=.none,builtins:=0}, #[])
def c7:Obj:=cQ' 111490546888804 134783800776830844550708368151093146964 613 117 1 336 617
def d7:Obj:=fO "copied" "Stretches.copied" (fB (lB 37) 11) (s qD 452) (.ref 341)
def i7:Obj:=tO [s DB 623,s KC 624,s 7893101 625,s 1768450665 626,s 112620038613614 627]
def j7:Obj:=(.none,none,.func {name:=(S MS),qualname:=(S bO),params:=kB (fB (lB 37) 12),body:=.stmts (jB (fB (lB 37) 12)),scope:=iB (fB (lB 37) 12),globals:=0,closure:=[],defaults:=.none,kwdefaults:=.none,doc:=.none,pyModule:=.none,annotations:=none,code:=.none,closureTuple:=.none,builtins:=0}, #[])
def l7:Obj:=cQ' MS bO 620 120 2 343 628
def m7:Obj:=fO "place_behind" "Stretches.place_behind" (fB (lB 37) 12) (s qD 452) (.ref 348)
def o7:Obj:=(.none,none,.func {name:=(S NS),qualname:=(S eO),params:=kB (fB (lB 37) 13),body:=.stmts (jB (fB (lB 37) 13)),scope:=iB (fB (lB 37) 13),globals:=0,closure:=[],defaults:=.none,kwdefaults:=.none,doc:=.none,pyModule:=.none,annotations:=none,code:=.none,closureTuple:=.none,builtins:=0}, #[])
def p7:Obj:=cO [s NS 631,s eO 632,s z6 633,i 131,i 3,i 0,i 0,i 3,.ref 350,(.bool true),i 181,.ref 351,.none,.none,.none,.ref 352,i 634,i 131,s z6 635]
def t7:Obj:=fO "parts_amid" "Stretches.parts_amid" (fB (lB 37) 13) (s qD 452) (.ref 353)
def u7:Obj:=tO [s DB 640,s KC 641,s 500186702449 642]
def v7:Obj:=(.none,none,.func {name:=(S OS),qualname:=(S 39943802116018770004276114331333133825364),params:=kB (fB (lB 37) 14),body:=.stmts (jB (fB (lB 37) 14)),scope:=iB (fB (lB 37) 14),globals:=0,closure:=[],defaults:=.none,kwdefaults:=.none,doc:=.none,pyModule:=.none,annotations:=none,code:=.none,closureTuple:=.none,builtins:=0}, #[])
def Q7:Obj:=cQ' OS 39943802116018770004276114331333133825364 637 136 2 355 643
def R7:Obj:=fO "part_at" "Stretches.part_at" (fB (lB 37) 14) (s qD 452) (.ref 360)
def S7:Obj:=(.none,none,.func {name:=(S QS),qualname:=(S 8834557535882840484900534439152844413302100),params:=kB (fB (lB 37) 15),body:=.stmts (jB (fB (lB 37) 15)),scope:=iB (fB (lB 37) 15),globals:=0,closure:=[],defaults:=.none,kwdefaults:=.none,doc:=.none,pyModule:=.none,annotations:=none,code:=.none,closureTuple:=.none,builtins:=0}, #[])
def T7:Obj:=cO [s QS 646,s 8834557535882840484900534439152844413302100 647,s z6 648,i 140,i 4,i 0,i 0,i 3,.ref 362,(.bool true),i 181,.ref 363,.none,.none,.none,.ref 364,i 649,i 140,s z6 650]
def V7:Obj:=fO "lay_amid" "Stretches.lay_amid" (fB (lB 37) 15) (s qD 452) (.ref 365)
def W7:Obj:=((.type "tuple"),none,.seq #[(.str "runs" 652)] 0, #[])
def X7:Obj:=((.type "getset_descriptor"),none,.fields ⟨[s qE 654,.ref 369,(.builtin "function.__dict__"),(.builtin "function.__dict__#set")]⟩, #[])
def Y7:Obj:=((.type "getset_descriptor"),none,.fields ⟨[s aE 656,.ref 369,(.builtin "ExceptionGroup.__weakref__"),.none]⟩, #[])
def Z7:Obj:=((.type "super"),none,.fields ⟨[.ref 369,.ref 369,.ref 369]⟩, #[])
def b8:Obj:=((.type "builtin_function_or_method"),none,.fields ⟨[(.builtin "object.__init_subclass__"),.ref 369]⟩, #[])
section
variable (P:Params)
def fh:W.BT:=.node NZ (.node (W0 P) (.node (d5 P) .nil .nil) .nil) (.node T3 (.node Q6 .nil .nil) .nil)
def gh (P:Params):W.BT:=.node i0 (.node u2 (.node X5 .nil .nil) .nil) (.node jL (.node BB .nil .nil) .nil)
def jh:W.BT:=.node (VZ P) (.node S1 (.node pB .nil .nil) .nil) (.node pB (.node rL .nil .nil) .nil)
def kh:W.BT:=.node x0 (.node (Y2 P) (.node pB .nil .nil) .nil) (.node pB (.node W7 .nil .nil) .nil)
def lh (P:Params):W.BT:=.node fD (.node Z0 (.node pB .nil .nil) .nil) (.node Y3 (.node V6 .nil .nil) .nil)
def mh:W.BT:=.node (p0 P) (.node T2 (.node d6 .nil .nil) .nil) (.node mL (.node v7 .nil .nil) .nil)
def nh:W.BT:=.node YZ (.node (V1 P) (.node S5 .nil .nil) .nil) (.node j4 (.node pB .nil .nil) .nil)
def oh (P:Params):W.BT:=.node T0 (.node u3 (.node BB .nil .nil) .nil) (.node BB .nil .nil)
def ph:W.BT:=.node (W.boot_o_7 P) (.node pB (.node uZ (fh P) (gh P)) (.node DZ (jh P) (kh P))) (.node BB (.node pB (lh P) (mh P)) (.node IZ (nh P) (oh P)))
def qh (P:Params):W.BT:=.node pB (.node Y0 (.node l5 .nil .nil) .nil) (.node W3 (.node BB .nil .nil) .nil)
def rh:W.BT:=.node l0 (.node (Q2 P) (.node Z5 .nil .nil) .nil) (.node u4 (.node pB .nil .nil) .nil)
def uh (P:Params):W.BT:=.node XZ (.node T1 (.node pB .nil .nil) .nil) (.node pB (.node pB .nil .nil) .nil)
def vh:W.BT:=.node (Q0 P) (.node i3 (.node p6 .nil .nil) .nil) (.node U4 (.node Y7 .nil .nil) .nil)
def xh:W.BT:=.node TZ (.node (y1 P) (.node o5 .nil .nil) .nil) (.node fL (.node X6 .nil .nil) .nil)
def yh (P:Params):W.BT:=.node r0 (.node W2 (.node pB .nil .nil) .nil) (.node pB (.node BB .nil .nil) .nil)
def zh:W.BT:=.node (b0 P) (.node X1 (.node BB .nil .nil) .nil) (.node BB (.node j7 .nil .nil) .nil)
def Rh:W.BT:=.node U0 (.node (Q3 P) (.node x6 .nil .nil) .nil) (.node Z4 .nil .nil)
def Sh:W.BT:=.node pB (.node nZ (.node xZ (qh P) (rh P)) (.node BB (uh P) (vh P))) (.node sZ (.node pB (xh P) (yh P)) (.node KZ (zh P) (Rh P)))
def Th:W.BT:=.node eD (.node BB (.node i5 .nil .nil) .nil) (.node (U3 P) (.node S6 .nil .nil) .nil)
def Uh:W.BT:=.node (CW P) (.node bE (.node pB .nil .nil) .nil) (.node pB (.node p7 .nil .nil) .nil)
def Vh:W.BT:=.node BB (.node (cL P) (.node x5 .nil .nil) .nil) (.node gL (.node BB .nil .nil) .nil)
def Wh (P:Params):W.BT:=.node bE (.node BB (.node n6 .nil .nil) .nil) (.node T4 (.node tL .nil .nil) .nil)
def Xh (P:Params):W.BT:=.node zW (.node bE (.node nL .nil .nil) .nil) (.node Z3 (.node pB .nil .nil) .nil)
def Yh:W.BT:=.node BB (.node (U2 P) (.node BB .nil .nil) .nil) (.node BB (.node R7 .nil .nil) .nil)
def Zh (P:Params):W.BT:=.node bE (.node BB (.node U5 .nil .nil) .nil) (.node n4 (.node i7 .nil .nil) .nil)
def ai:W.BT:=.node (YK P) (.node bE (.node pB .nil .nil) .nil) (.node pB .nil .nil)
def bi:W.BT:=.node (W.boot_o_9 P) (.node mZ (.node vZ (Th P) (Uh P)) (.node FZ (Vh P) (Wh P))) (.node pB (.node AZ (Xh P) (Yh P)) (.node pB (Zh P) (ai P)))
def ci:W.BT:=.node QZ (.node (aL P) (.node BB .nil .nil) .nil) (.node pB (.node pB .nil .nil) .nil)
def di (P:Params):W.BT:=.node bE (.node BB (.node b6 .nil .nil) .nil) (.node w4 (.node u7 .nil .nil) .nil)
def ei:W.BT:=.node (AW P) (.node bE (.node R5 .nil .nil) .nil) (.node i4 (.node c7 .nil .nil) .nil)
def fi:W.BT:=.node BB (.node (j3 P) (.node u6 .nil .nil) .nil) (.node W4 (.node b8 .nil .nil) .nil)
def gi (P:Params):W.BT:=.node bE (.node BB (.node BB .nil .nil) .nil) (.node BB (.node Y6 .nil .nil) .nil)
def ji:W.BT:=.node (t0 P) (.node bE (.node l6 .nil .nil) .nil) (.node R4 (.node T7 .nil .nil) .nil)
def li:W.BT:=.node BB (.node (Y1 P) (.node pB .nil .nil) .nil) (.node pB (.node m7 .nil .nil) .nil)
def mi (P:Params):W.BT:=.node bE (.node BB (.node pB .nil .nil) .nil) (.node fD .nil .nil)
def ni:W.BT:=.node ZS (.node pZ (.node BB (ci P) (di P)) (.node pB (ei P) (fi P))) (.node pB (.node CZ (gi P) (ji P)) (.node LZ (li P) (mi P)))
def oi (P:Params):W.BT:=.node OZ (.node pB (.node pB .nil .nil) .nil) (.node fD (.node R6 .nil .nil) .nil)
def pi (P:Params):W.BT:=.node fD (.node y2 (.node Y5 .nil .nil) .nil) (.node kL (.node o7 .nil .nil) .nil)
def qi (P:Params):W.BT:=.node pB (.node fD (.node u5 .nil .nil) .nil) (.node d4 (.node pB .nil .nil) .nil)
def si:W.BT:=.node y0 (.node pB (.node BB .nil .nil) .nil) (.node BB (.node (sL P) .nil .nil) .nil)
def ui:W.BT:=.node (yW P) (.node u1 (.node n5 .nil .nil) .nil) (.node pB (.node W6 .nil .nil) .nil)
def vi (P:Params):W.BT:=.node pB (.node fD (.node pB .nil .nil) .nil) (.node pB (.node Q7 .nil .nil) .nil)
def xi (P:Params):W.BT:=.node ZZ (.node pB (.node T5 .nil .nil) .nil) (.node m4 (.node BB .nil .nil) .nil)
def yi (P:Params):W.BT:=.node fD (.node y3 (.node v6 .nil .nil) .nil) (.node X4 .nil .nil)
def zi:W.BT:=.node (W.boot_o_8 P) (.node BB (.node pB (oi P) (pi P)) (.node EZ (qi P) (si P))) (.node qZ (.node zZ (ui P) (vi P)) (.node JZ (xi P) (yi P)))
def Ri (P:Params):W.BT:=.node BB (.node fD (.node pB .nil .nil) .nil) (.node X3 (.node T6 .nil .nil) .nil)
def Si (P:Params):W.BT:=.node o0 (.node pB (.node pB .nil .nil) .nil) (.node pB (.node BB .nil .nil) .nil)
def Ti (P:Params):W.BT:=.node fD (.node U1 (.node BB .nil .nil) .nil) (.node BB (.node b7 .nil .nil) .nil)
def Ui (P:Params):W.BT:=.node pB (.node fD (.node r6 .nil .nil) .nil) (.node V4 (.node Z7 .nil .nil) .nil)
def Vi (P:Params):W.BT:=.node UZ (.node pB (.node pB .nil .nil) .nil) (.node pB (.node pB .nil .nil) .nil)
def Wi (P:Params):W.BT:=.node fD (.node X2 (.node j6 .nil .nil) .nil) (.node Q4 (.node S7 .nil .nil) .nil)
def Xi (P:Params):W.BT:=.node pB (.node fD (.node V5 .nil .nil) .nil) (.node o4 (.node l7 .nil .nil) .nil)
def Yi (P:Params):W.BT:=.node V0 (.node pB (.node y6 .nil .nil) .nil) (.node c5 .nil .nil)
def Zi:W.BT:=.node eh (.node oZ (.node pB (Ri P) (Si P)) (.node GZ (Ti P) (Ui P))) (.node tZ (.node BB (Vi P) (Wi P)) (.node pB (Xi P) (Yi P)))
def aj:W.BT:=.node (PZ P) (.node X0 (.node j5 .nil .nil) .nil) (.node V3 (.node pB .nil .nil) .nil)
def bj (P:Params):W.BT:=.node DW (.node eD (.node BB .nil .nil) .nil) (.node BB (.node t7 .nil .nil) .nil)
def cj (P:Params):W.BT:=.node WZ (.node dL (.node Q5 .nil .nil) .nil) (.node iL (.node Z6 .nil .nil) .nil)
def dj (P:Params):W.BT:=.node eD (.node Z2 (.node pB .nil .nil) .nil) (.node pB (.node X7 .nil .nil) .nil)
def fj (P:Params):W.BT:=.node SZ (.node eD (.node pL .nil .nil) .nil) (.node eL (.node BB .nil .nil) .nil)
def gj (P:Params):W.BT:=.node q0 (.node V2 (.node i6 .nil .nil) .nil) (.node y4 (.node pB .nil .nil) .nil)
def ij (P:Params):W.BT:=.node eD (.node W1 (.node pB .nil .nil) .nil) (.node pB (.node pB .nil .nil) .nil)
def jj (P:Params):W.BT:=.node ZK (.node eD (.node w6 .nil .nil) .nil) (.node Y4 .nil .nil)
def kj:W.BT:=.node (W.boot_o_10 P) (.node pB (.node wZ (aj P) (bj P)) (.node pB (cj P) (dj P))) (.node rZ (.node BZ (fj P) (gj P)) (.node BB (ij P) (jj P)))
def lj (P:Params):W.BT:=.node RZ (.node bL (.node m5 .nil .nil) .nil) (.node BB (.node U6 .nil .nil) .nil)
def mj (P:Params):W.BT:=.node eD (.node S2 (.node c6 .nil .nil) .nil) (.node lL (.node pB .nil .nil) .nil)
def nj (P:Params):W.BT:=.node BW (.node eD (.node pB .nil .nil) .nil) (.node pB (.node d7 .nil .nil) .nil)
def oj (P:Params):W.BT:=.node S0 (.node m3 (.node pB .nil .nil) .nil) (.node pB .nil .nil)
def pj (P:Params):W.BT:=.node eD (.node Q1 (.node p5 .nil .nil) .nil) (.node c4 (.node qL .nil .nil) .nil)
def qj (P:Params):W.BT:=.node u0 (.node eD (.node m6 .nil .nil) .nil) (.node S4 (.node V7 .nil .nil) .nil)
def rj (P:Params):W.BT:=.node d0 (.node Z1 (.node W5 .nil .nil) .nil) (.node t4 (.node pB .nil .nil) .nil)
def sj (P:Params):W.BT:=.node eD (.node S3 (.node BB .nil .nil) .nil) (.node eD .nil .nil)
def tj:W.BT:=.node aT (.node pB (.node yZ (lj P) (mj P)) (.node HZ (nj P) (oj P))) (.node BB (.node pB (pj P) (qj P)) (.node MZ (rj P) (sj P)))
def uj:W.BT:=.node (W.boot_o_0 P) (.node (W.boot_o_1 P) (.node (uL P) (ph P) (Sh P)) (.node (W.boot_o_5 P) (bi P) (ni P))) (.node (W.boot_o_2 P) (.node (W.boot_o_4 P) (zi P) (Zi P)) (.node (W.boot_o_6 P) (kj P) (tj P)))
end
def xF (w:World) (os:OsState):W.SharedT:=(uj w.params,374,(W.boot_heap w.params).life, #[],W.boot_drawn,661,os)
def _root_.PySem.W.Fast.tw11787499882223236468:World->OsState->W.SharedT:=xF
theorem _root_.PySem.W.Fast.te11787499882223236468:@Eq (World->OsState->W.SharedT) xF _root_.PySem.W.Fast.tw11787499882223236468:=rfl
def vL (P:Params):Obj:=dO 57 [e P 6944663249689206880 165 (s iD 1269),e P z1 166 .none,e P z2 167 .none,e P z3 168 (.builtin "__main__.__loader__#opaque"),e P 6944661016558198880 169 .none,e P z4 170 (.ref 6),e P z5 171 (.ref 4),e P 6944663245527933024 173 (s z6 172),e P z7 174 .none,e P z8 193 (.ref 21),e P 1161971283 197 (.int (1) 196),e P 302078645080 199 (.int (2) 198),e P 1431389772 201 (.int (4) 200),e P 1330005588 203 (.int (8) 202),e P z9 205 (.int (16) 204),e P wS 207 (.int (32) 206),e P pI 215 (.ref 28),e P qI 222 (.ref 35),e P sI 229 (.ref 42),e P tI 237 (.ref 49),e P uI 245 (.ref 56),e P vI 253 (.ref 63),e P ZG 273 (.ref 73),e P aH 289 (.ref 86),e P bH 305 (.ref 98),e P cH 321 (.ref 110),e P dH 337 (.ref 122),e P fH 353 (.ref 134),e P gH 369 (.ref 146),e P iH 385 (.ref 158),e P jH 401 (.ref 170),e P kH 417 (.ref 182),e P lH 433 (.ref 194),e P wI 442 (.ref 203),e P xI 451 (.ref 210),e P xS 455 (.int (3) 454),e P yI 462 (.ref 217),e P zI 469 (.ref 224),e P AI 478 (.ref 231),e P BI 488 (.ref 238),e P CI 496 (.ref 245),e P DI 506 (.ref 252),e P mH 660 (.ref 369),e P xW 664 (.int (64) 663),e P PK 672 (.ref 380),e P EI 881 (.ref 536),e P QK 893 (.ref 547),e P FI 988 (.ref 611),e P RK 1000 (.ref 622),e P SK 1011 (.ref 629),e P TK 1020 (.ref 636),e P UK 1026 (.ref 641),e P WK 1038 (.ref 648),e P GI 1116 (.ref 705),e P HI 1268 (.ref 824),e P II 1315 (.ref 859),e P JI 1368 (.ref 899)]
def vj:Obj:=(.none,none,.fields ⟨[i 1,i 0,.ref 20,i 11,i 0,.ref 27,i 13,i 0,.ref 34,i 15,i 0,.ref 41,i 17,i 0,.ref 48,i 19,i 0,.ref 55,i 21,i 0,.ref 62,i 24,i 0,.ref 69,i 26,i 0,.ref 82,i 28,i 0,.ref 94,i 30,i 0,.ref 106,i 32,i 0,.ref 118,i 34,i 0,.ref 130,i 36,i 0,.ref 142,i 38,i 0,.ref 154,i 40,i 0,.ref 166,i 42,i 0,.ref 178,i 44,i 0,.ref 190,i 47,i 0,.ref 202,i 49,i 0,.ref 209,i 53,i 0,.ref 216,i 56,i 0,.ref 223,i 58,i 0,.ref 230,i 63,i 0,.ref 237,i 66,i 0,.ref 244,i 68,i 0,.ref 251,i 77,i 0,.ref 258,i 150,i 0,.ref 379,i 155,i 0,.ref 386,i 243,i 0,.ref 546,i 251,i 0,.ref 553,i 301,i 0,.ref 621,i 308,i 0,.ref 628,i 313,i 0,.ref 635,i 322,i 0,.ref 640,i 326,i 0,.ref 647,i 336,i 0,.ref 654,i 360,i 0,.ref 715,i 424,i 0,.ref 834,i 435,i 0,.ref 869]⟩, #[])
def wj:Obj:=tO [s 32777980890478191 668,s 126883592042095 669]
def xj:Obj:=(.none,none,.func {name:=(S PK),qualname:=(S PK),params:=kB (lB 40),body:=.stmts (jB (lB 40)),scope:=iB (lB 40),globals:=0,closure:=[],defaults:=.none,kwdefaults:=.none,doc:=.none,pyModule:=.none,annotations:=none,code:=.none,closureTuple:=.none,builtins:=0}, #[])
def yj (P:Params):Obj:=dO 25 [e P xC 680 (s xD 661),e P JC 682 (s EI 681),e P yC 684 (.int (155) 683),e P LC 692 (.ref 394),e P ML 700 (.ref 401),e P 1819504743 708 (.ref 408),e P WN 716 (.ref 415),e P NL 725 (.ref 422),e P XN 733 (.ref 429),e P 8020589 747 (.ref 437),e P 1969711725 757 (.ref 444),e P xG 768 (.ref 451),e P 435510080610 780 (.ref 458),e P OL 787 (.ref 465),e P PL 794 (.ref 472),e P VS 802 (.ref 479),e P QL 810 (.ref 486),e P KI 819 (.ref 493),e P LI 828 (.ref 500),e P RS 834 (.ref 505),e P SS 842 (.ref 512),e P US 850 (.ref 519),e P WS 860 (.ref 526),e P XS 870 (.ref 533),e P zC 874 (.ref 534)]
def zj:Obj:=(.none,none,.fields ⟨[i 157,i 4,.ref 393,i 162,i 4,.ref 400,i 167,i 4,.ref 407,i 170,i 4,.ref 414,i 173,i 4,.ref 421,i 180,i 4,.ref 428,i 183,i 4,.ref 436,i 186,i 4,.ref 443,i 189,i 4,.ref 450,i 192,i 4,.ref 457,i 202,i 4,.ref 464,i 205,i 4,.ref 471,i 208,i 4,.ref 478,i 211,i 4,.ref 485,i 215,i 4,.ref 492,i 219,i 4,.ref 499,i 223,i 4,.ref 504,i 229,i 4,.ref 511,i 233,i 4,.ref 518,i 237,i 4,.ref 525,i 240,i 4,.ref 532]⟩, #[])
def Rj:Obj:=cR' EI EI 675 155 384 678
def Sj:Obj:=((.type "frame"),none,.plain, #[(some (.ref 386)),(some (.ref 3)),(some (.ref 383)),none,(some (s xD 661)),none,(some (.ref 0))])
def Tj:Obj:=tO [s DB 688,s 439988939124 689]
def Uj:Obj:=(.none,none,.func {name:=(S LC),qualname:=(S 1954753563970360692704735984513097),params:=kB (fB (lB 41) 0),body:=.stmts (jB (fB (lB 41) 0)),scope:=iB (fB (lB 41) 0),globals:=0,closure:=[],defaults:=.none,kwdefaults:=.none,doc:=.none,pyModule:=.none,annotations:=none,code:=.none,closureTuple:=.none,builtins:=0}, #[])
def Vj:Obj:=tO [s DB 696,s gC 697]
def Wj:Obj:=(.none,none,.func {name:=(S ML),qualname:=(S 2199721175476886628490265163624521),params:=kB (fB (lB 41) 1),body:=.stmts (jB (fB (lB 41) 1)),scope:=iB (fB (lB 41) 1),globals:=0,closure:=[],defaults:=.none,kwdefaults:=.none,doc:=.none,pyModule:=.none,annotations:=none,code:=.none,closureTuple:=.none,builtins:=0}, #[])
def Xj:Obj:=tO [s DB 704,s gC 705]
def Yj:Obj:=(.none,none,.func {name:=(S 1819504743),qualname:=(S 512145055212970217730121),params:=kB (fB (lB 41) 2),body:=.stmts (jB (fB (lB 41) 2)),scope:=iB (fB (lB 41) 2),globals:=0,closure:=[],defaults:=.none,kwdefaults:=.none,doc:=.none,pyModule:=.none,annotations:=none,code:=.none,closureTuple:=.none,builtins:=0}, #[])
def Zj:Obj:=cQ' 1819504743 512145055212970217730121 701 167 2 402 706
def ak:Obj:=fO "fork" "House.fork" (fB (lB 41) 2) (s xD 661) (.ref 407)
def fk:Obj:=tO [s DB 712,s gC 713]
def gk:Obj:=(.none,none,.func {name:=(S WN),qualname:=(S 2199721175476536786337936233099337),params:=kB (fB (lB 41) 3),body:=.stmts (jB (fB (lB 41) 3)),scope:=iB (fB (lB 41) 3),globals:=0,closure:=[],defaults:=.none,kwdefaults:=.none,doc:=.none,pyModule:=.none,annotations:=none,code:=.none,closureTuple:=.none,builtins:=0}, #[])
def ik:Obj:=cQ' WN 2199721175476536786337936233099337 709 170 2 409 714
def jk:Obj:=fO "end_task" "House.end_task" (fB (lB 41) 3) (s xD 661) (.ref 414)
def qk:Obj:=tO [s DB 720,s jD 721,s VD 722]
def sk:Obj:=(.none,none,.func {name:=(S NL),qualname:=(S 2199325012903650553738972299161673),params:=kB (fB (lB 41) 4),body:=.stmts (jB (fB (lB 41) 4)),scope:=iB (fB (lB 41) 4),globals:=0,closure:=[],defaults:=.none,kwdefaults:=.none,doc:=.none,pyModule:=.none,annotations:=none,code:=.none,closureTuple:=.none,builtins:=0}, #[])
def uk:Obj:=tO [s DB 729,s VD 730]
def vk:Obj:=(.none,none,.func {name:=(S XN),qualname:=(S 563027203303301669962607049756274761),params:=kB (fB (lB 41) 5),body:=.stmts (jB (fB (lB 41) 5)),scope:=iB (fB (lB 41) 5),globals:=0,closure:=[],defaults:=.none,kwdefaults:=.none,doc:=.none,pyModule:=.none,annotations:=none,code:=.none,closureTuple:=.none,builtins:=0}, #[])
def wk:Obj:=cQ' XN 563027203303301669962607049756274761 726 180 2 423 731
def xk:Obj:=fO "drop_bank" "House.drop_bank" (fB (lB 41) 5) (s xD 661) (.ref 428)
def yk:Obj:=((.type "tuple"),none,.seq #[.none,(.int (0) 734)] 0, #[])
def zk:Obj:=tO [s DB 738,s gC 739,s UD 740,s jD 741,s wF 742,s VD 743,s 504447006068 744]
def Rk:Obj:=(.none,none,.func {name:=(S 8020589),qualname:=(S 2257595154097830785097),params:=kB (fB (lB 41) 6),body:=.stmts (jB (fB (lB 41) 6)),scope:=iB (fB (lB 41) 6),globals:=0,closure:=[],defaults:=.none,kwdefaults:=.none,doc:=.none,pyModule:=.none,annotations:=none,code:=.none,closureTuple:=.none,builtins:=0}, #[])
def Tk:Obj:=cQ' 8020589 2257595154097830785097 735 183 7 431 745
def Uk:Obj:=((.type "function"),none,.func (W.fnOf (Str.ofString "lay") (Str.ofString "House.lay") (kB (fB (lB 41) 6)) (jB (fB (lB 41) 6)) (iB (fB (lB 41) 6)) (.ref 430) .none .none (s xD 661) none (.ref 436) .none), #[])
def Vk:Obj:=tO [s DB 751,s gC 752,s UD 753,s jD 754]
def Wk:Obj:=(.none,none,.func {name:=(S 1969711725),qualname:=(S 554424561973198142730313),params:=kB (fB (lB 41) 7),body:=.stmts (jB (fB (lB 41) 7)),scope:=iB (fB (lB 41) 7),globals:=0,closure:=[],defaults:=.none,kwdefaults:=.none,doc:=.none,pyModule:=.none,annotations:=none,code:=.none,closureTuple:=.none,builtins:=0}, #[])
def Xk:Obj:=cQ' 1969711725 554424561973198142730313 748 186 4 438 755
def Yk:Obj:=fO "lift" "House.lift" (fB (lB 41) 7) (s xD 661) (.ref 443)
def Zk:Obj:=tO [s DB 761,s gC 762,s UD 763,s jD 764,s wF 765]
def al:Obj:=(.none,none,.func {name:=(S xG),qualname:=(S 122646396239648390521450569),params:=kB (fB (lB 41) 8),body:=.stmts (jB (fB (lB 41) 8)),scope:=iB (fB (lB 41) 8),globals:=0,closure:=[],defaults:=.none,kwdefaults:=.none,doc:=.none,pyModule:=.none,annotations:=none,code:=.none,closureTuple:=.none,builtins:=0}, #[])
def el:Obj:=cQ' xG 122646396239648390521450569 758 189 5 445 766
def gl:Obj:=fO "guard" "House.guard" (fB (lB 41) 8) (s xD 661) (.ref 450)
def il:Obj:=tO [s DB 772,s gC 773,s 32779080669947234 774,s 1970233976 775,s 500186702449 776,s wF 777]
def jl:Obj:=(.none,none,.func {name:=(S 435510080610),qualname:=(S 122585189797007784293068873),params:=kB (fB (lB 41) 9),body:=.stmts (jB (fB (lB 41) 9)),scope:=iB (fB (lB 41) 9),globals:=0,closure:=[],defaults:=.none,kwdefaults:=.none,doc:=.none,pyModule:=.none,annotations:=none,code:=.none,closureTuple:=.none,builtins:=0}, #[])
def kl:Obj:=cQ' 435510080610 122585189797007784293068873 769 192 4 452 778
def ll:Obj:=fO "asked" "House.asked" (fB (lB 41) 9) (s xD 661) (.ref 457)
def nl:Obj:=tO [s DB 784]
def ql:Obj:=(.none,none,.func {name:=(S OL),qualname:=(S 609859923998260050033739136169832521),params:=kB (fB (lB 41) 10),body:=.stmts (jB (fB (lB 41) 10)),scope:=iB (fB (lB 41) 10),globals:=0,closure:=[],defaults:=.none,kwdefaults:=.none,doc:=.none,pyModule:=.none,annotations:=none,code:=.none,closureTuple:=.none,builtins:=0}, #[])
def ul:Obj:=tO [s DB 791]
def wl:Obj:=(.none,none,.func {name:=(S PL),qualname:=(S 609859923998259957794952218041282633),params:=kB (fB (lB 41) 11),body:=.stmts (jB (fB (lB 41) 11)),scope:=iB (fB (lB 41) 11),globals:=0,closure:=[],defaults:=.none,kwdefaults:=.none,doc:=.none,pyModule:=.none,annotations:=none,code:=.none,closureTuple:=.none,builtins:=0}, #[])
def xl:Obj:=tO [s DB 798,s VD 799]
def yl:Obj:=(.none,none,.func {name:=(S VS),qualname:=(S 532117450153858173809377884935450697),params:=kB (fB (lB 41) 12),body:=.stmts (jB (fB (lB 41) 12)),scope:=iB (fB (lB 41) 12),globals:=0,closure:=[],defaults:=.none,kwdefaults:=.none,doc:=.none,pyModule:=.none,annotations:=none,code:=.none,closureTuple:=.none,builtins:=0}, #[])
def zl:Obj:=cQ' VS 532117450153858173809377884935450697 795 208 2 473 800
def Rl:Obj:=fO "bank_size" "House.bank_size" (fB (lB 41) 12) (s xD 661) (.ref 478)
def Sl:Obj:=tO [s DB 806,s gC 807]
def Tl:Obj:=(.none,none,.func {name:=(S QL),qualname:=(S 9010805286337637281539545668179908239978569),params:=kB (fB (lB 41) 13),body:=.stmts (jB (fB (lB 41) 13)),scope:=iB (fB (lB 41) 13),globals:=0,closure:=[],defaults:=.none,kwdefaults:=.none,doc:=.none,pyModule:=.none,annotations:=none,code:=.none,closureTuple:=.none,builtins:=0}, #[])
def Ul:Obj:=tO [s DB 814,s gC 815,s KC 816]
def Vl:Obj:=(.none,none,.func {name:=(S KI),qualname:=(S 609494050535537300399575152849219657),params:=kB (fB (lB 41) 14),body:=.stmts (jB (fB (lB 41) 14)),scope:=iB (fB (lB 41) 14),globals:=0,closure:=[],defaults:=.none,kwdefaults:=.none,doc:=.none,pyModule:=.none,annotations:=none,code:=.none,closureTuple:=.none,builtins:=0}, #[])
def Wl:Obj:=cQ' KI 609494050535537300399575152849219657 811 215 3 487 817
def Xl:Obj:=fO "rights_at" "House.rights_at" (fB (lB 41) 14) (s xD 661) (.ref 492)
def Yl:Obj:=tO [s DB 823,s gC 824,s KC 825]
def Zl:Obj:=(.none,none,.func {name:=(S LI),qualname:=(S 36328676115840947361617965129),params:=kB (fB (lB 41) 15),body:=.stmts (jB (fB (lB 41) 15)),scope:=iB (fB (lB 41) 15),globals:=0,closure:=[],defaults:=.none,kwdefaults:=.none,doc:=.none,pyModule:=.none,annotations:=none,code:=.none,closureTuple:=.none,builtins:=0}, #[])
def am:Obj:=cQ' LI 36328676115840947361617965129 820 219 3 494 826
def cm:Obj:=fO "tie_at" "House.tie_at" (fB (lB 41) 15) (s xD 661) (.ref 499)
def dm:Obj:=(.none,none,.func {name:=(S RS),qualname:=(S 2097991594657664520040000427290697),params:=kB (fB (lB 41) 16),body:=.stmts (jB (fB (lB 41) 16)),scope:=iB (fB (lB 41) 16),globals:=0,closure:=[],defaults:=.none,kwdefaults:=.none,doc:=.none,pyModule:=.none,annotations:=none,code:=.none,closureTuple:=.none,builtins:=0}, #[])
def fm:Obj:=tO [s DB 838,s gC 839]
def gm:Obj:=(.none,none,.func {name:=(S SS),qualname:=(S 144160926956038725368327681379818434633),params:=kB (fB (lB 41) 17),body:=.stmts (jB (fB (lB 41) 17)),scope:=iB (fB (lB 41) 17),globals:=0,closure:=[],defaults:=.none,kwdefaults:=.none,doc:=.none,pyModule:=.none,annotations:=none,code:=.none,closureTuple:=.none,builtins:=0}, #[])
def im:Obj:=tO [s DB 846,s VD 847]
def jm:Obj:=(.none,none,.func {name:=(S US),qualname:=(S 144134964045639125973426952214381228105),params:=kB (fB (lB 41) 18),body:=.stmts (jB (fB (lB 41) 18)),scope:=iB (fB (lB 41) 18),globals:=0,closure:=[],defaults:=.none,kwdefaults:=.none,doc:=.none,pyModule:=.none,annotations:=none,code:=.none,closureTuple:=.none,builtins:=0}, #[])
def km:Obj:=tO [s DB 854,s gC 855,s UD 856,s jD 857]
def lm:Obj:=(.none,none,.func {name:=(S WS),qualname:=(S gO),params:=kB (fB (lB 41) 19),body:=.stmts (jB (fB (lB 41) 19)),scope:=iB (fB (lB 41) 19),globals:=0,closure:=[],defaults:=.none,kwdefaults:=.none,doc:=.none,pyModule:=.none,annotations:=none,code:=.none,closureTuple:=.none,builtins:=0}, #[])
def mm:Obj:=cQ' WS gO 851 237 4 520 858
def om:Obj:=fO "check_stretch" "House.check_stretch" (fB (lB 41) 19) (s xD 661) (.ref 525)
def qm:Obj:=tO [s DB 864,s VD 865,s 504447006068 866,s jD 867]
def rm:Obj:=(.none,none,.func {name:=(S XS),qualname:=(S iO),params:=kB (fB (lB 41) 20),body:=.stmts (jB (fB (lB 41) 20)),scope:=iB (fB (lB 41) 20),globals:=0,closure:=[],defaults:=.none,kwdefaults:=.none,doc:=.none,pyModule:=.none,annotations:=none,code:=.none,closureTuple:=.none,builtins:=0}, #[])
def sm:Obj:=cQ' XS iO 861 240 4 527 868
def tm:Obj:=fO "check_part_of_bank" "House.check_part_of_bank" (fB (lB 41) 20) (s xD 661) (.ref 532)
def um:Obj:=((.type "tuple"),none,.seq #[(.str "banks" 871),(.str "shape" 872),(.str "tasks" 873)] 0, #[])
def vm:Obj:=((.type "getset_descriptor"),none,.fields ⟨[s qE 875,.ref 536,(.builtin "function.__dict__"),(.builtin "function.__dict__#set")]⟩, #[])
def wm:Obj:=((.type "getset_descriptor"),none,.fields ⟨[s aE 877,.ref 536,(.builtin "ExceptionGroup.__weakref__"),.none]⟩, #[])
def xm:Obj:=((.type "super"),none,.fields ⟨[.ref 536,.ref 536,.ref 536]⟩, #[])
def ym:Obj:=((.type "builtin_function_or_method"),none,.fields ⟨[(.builtin "object.__init_subclass__"),.ref 536]⟩, #[])
def zm:Obj:=tO [s 500035707502 887,s 1701798505 888,s 111490714854001 889,s VE 890]
def Rm:Obj:=(.none,none,.func {name:=(S QK),qualname:=(S QK),params:=kB (lB 43),body:=.stmts (jB (lB 43)),scope:=iB (lB 43),globals:=0,closure:=[],defaults:=.none,kwdefaults:=.none,doc:=.none,pyModule:=.none,annotations:=none,code:=.none,closureTuple:=.none,builtins:=0}, #[])
def Sm:Obj:=cQ' QK QK 884 243 2 541 891
def Um:Obj:=fP' "swept" (lB 43) (s 604424633459520194665304702243205991 882) 546
def Vm (P:Params):Obj:=dO 12 [e P xC 903 (s jG 894),e P JC 905 (s FI 904),e P yC 907 (.int (251) 906),e P LC 915 (.ref 561),e P HF 925 (.ref 568),e P 6714486 935 (.ref 575),e P 1902536300 946 (.ref 582),e P 112615828452724 956 (.ref 589),e P YS 964 (.ref 596),e P nF 971 (.ref 603),e P nH 977 (.ref 608),e P zC 981 (.ref 609)]
def Wm:Obj:=(.none,none,.fields ⟨[i 253,i 4,.ref 560,i 258,i 4,.ref 567,i 262,i 4,.ref 574,i 267,i 4,.ref 581,i 278,i 4,.ref 588,i 283,i 4,.ref 595,i 286,i 4,.ref 602,i 289,i 4,.ref 607]⟩, #[])
def Xm:Obj:=cR' FI FI 898 251 551 901
def Ym:Obj:=((.type "frame"),none,.plain, #[(some (.ref 553)),(some (.ref 3)),(some (.ref 550)),none,(some (s jG 894)),none,(some (.ref 0))])
def Zm:Obj:=tO [s DB 911,s jD 912]
def bn:Obj:=(.none,none,.func {name:=(S LC),qualname:=(S 7635756109259221455877975339075),params:=kB (fB (lB 45) 0),body:=.stmts (jB (fB (lB 45) 0)),scope:=iB (fB (lB 45) 0),globals:=0,closure:=[],defaults:=.none,kwdefaults:=.none,doc:=.none,pyModule:=.none,annotations:=none,code:=.none,closureTuple:=.none,builtins:=0}, #[])
def cn:Obj:=tO [s DB 919,s gC 920,s KC 921,s VE 922]
def dn:Obj:=(.none,none,.func {name:=(S HF),qualname:=(S 2000350455740721295427),params:=kB (fB (lB 45) 1),body:=.stmts (jB (fB (lB 45) 1)),scope:=iB (fB (lB 45) 1),globals:=0,closure:=[],defaults:=.none,kwdefaults:=.none,doc:=.none,pyModule:=.none,annotations:=none,code:=.none,closureTuple:=.none,builtins:=0}, #[])
def gn:Obj:=cQ' HF 2000350455740721295427 916 258 3 562 923
def jn:Obj:=fO "look" "Book.look" (fB (lB 45) 1) (s jG 894) (.ref 567)
def ln:Obj:=tO [s DB 929,s gC 930,s KC 931,s VE 932]
def rn:Obj:=(.none,none,.func {name:=(S 6714486),qualname:=(S 7382655635221934147),params:=kB (fB (lB 45) 2),body:=.stmts (jB (fB (lB 45) 2)),scope:=iB (fB (lB 45) 2),globals:=0,closure:=[],defaults:=.none,kwdefaults:=.none,doc:=.none,pyModule:=.none,annotations:=none,code:=.none,closureTuple:=.none,builtins:=0}, #[])
def vn:Obj:=cQ' 6714486 7382655635221934147 926 262 3 569 933
def wn:Obj:=fO "use" "Book.use" (fB (lB 45) 2) (s jG 894) (.ref 574)
def xn:Obj:=tO [s DB 939,s gC 940,s KC 941,s TD 942,s VE 943]
def yn:Obj:=(.none,none,.func {name:=(S 1902536300),qualname:=(S 2091860784319611039811),params:=kB (fB (lB 45) 3),body:=.stmts (jB (fB (lB 45) 3)),scope:=iB (fB (lB 45) 3),globals:=0,closure:=[],defaults:=.none,kwdefaults:=.none,doc:=.none,pyModule:=.none,annotations:=none,code:=.none,closureTuple:=.none,builtins:=0}, #[])
def zn:Obj:=cQ' 1902536300 2091860784319611039811 936 267 4 576 944
def Rn:Obj:=fO "keep" "Book.keep" (fB (lB 45) 3) (s jG 894) (.ref 581)
def Tn:Obj:=tO [s DB 950,s gC 951,s KC 952,s VE 953]
def Vn:Obj:=(.none,none,.func {name:=(S 112615828452724),qualname:=(S 123822412855397544384032835),params:=kB (fB (lB 45) 4),body:=.stmts (jB (fB (lB 45) 4)),scope:=iB (fB (lB 45) 4),globals:=0,closure:=[],defaults:=.none,kwdefaults:=.none,doc:=.none,pyModule:=.none,annotations:=none,code:=.none,closureTuple:=.none,builtins:=0}, #[])
def Wn:Obj:=cQ' 112615828452724 123822412855397544384032835 947 278 3 583 954
def Xn:Obj:=fO "strike" "Book.strike" (fB (lB 45) 4) (s jG 894) (.ref 588)
def Yn:Obj:=tO [s DB 960,s gC 961]
def Zn:Obj:=(.none,none,.func {name:=(S YS),qualname:=(S 144160926956031509666854269501697978435),params:=kB (fB (lB 45) 5),body:=.stmts (jB (fB (lB 45) 5)),scope:=iB (fB (lB 45) 5),globals:=0,closure:=[],defaults:=.none,kwdefaults:=.none,doc:=.none,pyModule:=.none,annotations:=none,code:=.none,closureTuple:=.none,builtins:=0}, #[])
def ao:Obj:=cQ' YS 144160926956031509666854269501697978435 957 283 2 590 962
def bo:Obj:=fO "strike_task" "Book.strike_task" (fB (lB 45) 5) (s jG 894) (.ref 595)
def fo:Obj:=tO [s DB 968]
def io:Obj:=(.none,none,.func {name:=(S nF),qualname:=(S 1871007083238733672515),params:=kB (fB (lB 45) 6),body:=.stmts (jB (fB (lB 45) 6)),scope:=iB (fB (lB 45) 6),globals:=0,closure:=[],defaults:=.none,kwdefaults:=.none,doc:=.none,pyModule:=.none,annotations:=none,code:=.none,closureTuple:=.none,builtins:=0}, #[])
def jo:Obj:=(.none,none,.func {name:=(S nH),qualname:=(S 10488331158346578517991439945993700223512643),params:=kB (fB (lB 45) 7),body:=.stmts (jB (fB (lB 45) 7)),scope:=iB (fB (lB 45) 7),globals:=0,closure:=[],defaults:=.none,kwdefaults:=.none,doc:=.none,pyModule:=.none,annotations:=none,code:=.none,closureTuple:=.none,builtins:=0}, #[])
def ko:Obj:=cO [s nH 972,s 10488331158346578517991439945993700223512643 973,s z6 974,i 289,i 1,i 0,i 0,i 3,.ref 604,(.bool true),i 181,.ref 605,.none,.none,.none,.ref 606,i 975,i 289,s z6 976]
def mo:Obj:=fO "place_for_new" "Book.place_for_new" (fB (lB 45) 7) (s jG 894) (.ref 607)
def oo:Obj:=((.type "tuple"),none,.seq #[(.str "found" 978),(.str "hand" 979),(.str "rows" 980)] 0, #[])
def qo:Obj:=((.type "getset_descriptor"),none,.fields ⟨[s qE 982,.ref 611,(.builtin "function.__dict__"),(.builtin "function.__dict__#set")]⟩, #[])
def uo:Obj:=((.type "getset_descriptor"),none,.fields ⟨[s aE 984,.ref 611,(.builtin "ExceptionGroup.__weakref__"),.none]⟩, #[])
def vo:Obj:=((.type "super"),none,.fields ⟨[.ref 611,.ref 611,.ref 611]⟩, #[])
def wo:Obj:=((.type "builtin_function_or_method"),none,.fields ⟨[(.builtin "object.__init_subclass__"),.ref 611]⟩, #[])
def xo:Obj:=tO [s 7434357 994,s 500118746484 995,s 435661729895 996,s 1902540148 997]
def yo:Obj:=(.none,none,.func {name:=(S RK),qualname:=(S RK),params:=kB (lB 47),body:=.stmts (jB (lB 47)),scope:=iB (lB 47),globals:=0,closure:=[],defaults:=.none,kwdefaults:=.none,doc:=.none,pyModule:=.none,annotations:=none,code:=.none,closureTuple:=.none,builtins:=0}, #[])
def zo:Obj:=cQ' RK RK 991 301 2 616 998
def Ro:Obj:=fP' "look_at" (lB 47) (s kG 989) 621
def So:Obj:=tO [s 7434357 1004,s 500118746484 1005,s TD 1006,s 469870536301 1007,s 1902540148 1008]
def To:Obj:=(.none,none,.func {name:=(S SK),qualname:=(S SK),params:=kB (lB 48),body:=.stmts (jB (lB 48)),scope:=iB (lB 48),globals:=0,closure:=[],defaults:=.none,kwdefaults:=.none,doc:=.none,pyModule:=.none,annotations:=none,code:=.none,closureTuple:=.none,builtins:=0}, #[])
def Uo:Obj:=cQ' SK SK 1001 308 3 623 1009
def Vo:Obj:=fP' "put_at" (lB 48) (s kG 989) 628
def Wo:Obj:=tO [s 469870536301 1015,s 500118746484 1016,s 1902540148 1017]
def Xo:Obj:=(.none,none,.func {name:=(S TK),qualname:=(S TK),params:=kB (lB 49),body:=.stmts (jB (lB 49)),scope:=iB (lB 49),globals:=0,closure:=[],defaults:=.none,kwdefaults:=.none,doc:=.none,pyModule:=.none,annotations:=none,code:=.none,closureTuple:=.none,builtins:=0}, #[])
def Yo:Obj:=cQ' TK TK 1012 313 2 630 1018
def Zo:Obj:=fP' "drop_at" (lB 49) (s kG 989) 635
def bp:Obj:=(.none,none,.func {name:=(S UK),qualname:=(S UK),params:=kB (lB 50),body:=.stmts (jB (lB 50)),scope:=iB (lB 50),globals:=0,closure:=[],defaults:=.none,kwdefaults:=.none,doc:=.none,pyModule:=.none,annotations:=none,code:=.none,closureTuple:=.none,builtins:=0}, #[])
def cp:Obj:=tO [s 469870536301 1030,s 128013219358317 1031,s 435442575714 1032,s nF 1033,s 1902540148 1034,s 500118746484 1035]
def gp:Obj:=(.none,none,.func {name:=(S WK),qualname:=(S WK),params:=kB (lB 51),body:=.stmts (jB (lB 51)),scope:=iB (lB 51),globals:=0,closure:=[],defaults:=.none,kwdefaults:=.none,doc:=.none,pyModule:=.none,annotations:=none,code:=.none,closureTuple:=.none,builtins:=0}, #[])
def ip (P:Params):Obj:=dO 11 [e P xC 1048 (s SD 1039),e P JC 1050 (s GI 1049),e P yC 1052 (.int (336) 1051),e P LC 1060 (.ref 662),e P 7698033 1069 (.ref 669),e P HF 1077 (.ref 676),e P 1903194981 1085 (.ref 683),e P nF 1091 (.ref 688),e P yD 1098 (.ref 695),e P 452941932133 1106 (.ref 702),e P zC 1109 (.ref 703)]
def jp:Obj:=(.none,none,.fields ⟨[i 338,i 4,.ref 661,i 342,i 4,.ref 668,i 345,i 4,.ref 675,i 348,i 4,.ref 682,i 351,i 4,.ref 687,i 354,i 4,.ref 694,i 357,i 4,.ref 701]⟩, #[])
def pp:Obj:=cR' GI GI 1043 336 652 1046
def qp:Obj:=((.type "frame"),none,.plain, #[(some (.ref 654)),(some (.ref 3)),(some (.ref 651)),none,(some (s SD 1039)),none,(some (.ref 0))])
def rp:Obj:=tO [s DB 1056,s 439988939124 1057]
def vp:Obj:=(.none,none,.func {name:=(S LC),qualname:=(S 1954753563970360692704735865823829),params:=kB (fB (lB 53) 0),body:=.stmts (jB (fB (lB 53) 0)),scope:=iB (fB (lB 53) 0),globals:=0,closure:=[],defaults:=.none,kwdefaults:=.none,doc:=.none,pyModule:=.none,annotations:=none,code:=.none,closureTuple:=.none,builtins:=0}, #[])
def wp:Obj:=tO [s DB 1064,s KC 1065,s TD 1066]
def xp:Obj:=(.none,none,.func {name:=(S 7698033),qualname:=(S 2166803711509829739093),params:=kB (fB (lB 53) 1),body:=.stmts (jB (fB (lB 53) 1)),scope:=iB (fB (lB 53) 1),globals:=0,closure:=[],defaults:=.none,kwdefaults:=.none,doc:=.none,pyModule:=.none,annotations:=none,code:=.none,closureTuple:=.none,builtins:=0}, #[])
def yp:Obj:=cQ' 7698033 2166803711509829739093 1061 342 3 663 1067
def Qp:Obj:=fO "put" "Table.put" (fB (lB 53) 1) (s SD 1039) (.ref 668)
def Rp:Obj:=tO [s DB 1073,s KC 1074]
def Tp:Obj:=(.none,none,.func {name:=(S HF),qualname:=(S 512089716669598830649941),params:=kB (fB (lB 53) 2),body:=.stmts (jB (fB (lB 53) 2)),scope:=iB (fB (lB 53) 2),globals:=0,closure:=[],defaults:=.none,kwdefaults:=.none,doc:=.none,pyModule:=.none,annotations:=none,code:=.none,closureTuple:=.none,builtins:=0}, #[])
def Vp:Obj:=cQ' HF 512089716669598830649941 1070 345 2 670 1075
def Wp:Obj:=fO "look" "Table.look" (fB (lB 53) 2) (s SD 1039) (.ref 675)
def Xp:Obj:=tO [s DB 1081,s KC 1082]
def Yp:Obj:=(.none,none,.func {name:=(S 1903194981),qualname:=(S 535701763004929356816981),params:=kB (fB (lB 53) 3),body:=.stmts (jB (fB (lB 53) 3)),scope:=iB (fB (lB 53) 3),globals:=0,closure:=[],defaults:=.none,kwdefaults:=.none,doc:=.none,pyModule:=.none,annotations:=none,code:=.none,closureTuple:=.none,builtins:=0}, #[])
def Zp:Obj:=cQ' 1903194981 535701763004929356816981 1078 348 2 677 1083
def aq:Obj:=fO "drop" "Table.drop" (fB (lB 53) 3) (s SD 1039) (.ref 682)
def bq:Obj:=(.none,none,.func {name:=(S nF),qualname:=(S 478977813309089999184469),params:=kB (fB (lB 53) 4),body:=.stmts (jB (fB (lB 53) 4)),scope:=iB (fB (lB 53) 4),globals:=0,closure:=[],defaults:=.none,kwdefaults:=.none,doc:=.none,pyModule:=.none,annotations:=none,code:=.none,closureTuple:=.none,builtins:=0}, #[])
def cq:Obj:=tO [s DB 1095]
def dq:Obj:=(.none,none,.func {name:=(S yD),qualname:=(S 39961196207893759245128558236988319425109),params:=kB (fB (lB 53) 5),body:=.stmts (jB (fB (lB 53) 5)),scope:=iB (fB (lB 53) 5),globals:=0,closure:=[],defaults:=.none,kwdefaults:=.none,doc:=.none,pyModule:=.none,annotations:=none,code:=.none,closureTuple:=.none,builtins:=0}, #[])
def fq:Obj:=tO [s DB 1102,s KC 1103]
def gq:Obj:=(.none,none,.func {name:=(S 452941932133),qualname:=(S 127491819798467822498308693),params:=kB (fB (lB 53) 6),body:=.stmts (jB (fB (lB 53) 6)),scope:=iB (fB (lB 53) 6),globals:=0,closure:=[],defaults:=.none,kwdefaults:=.none,doc:=.none,pyModule:=.none,annotations:=none,code:=.none,closureTuple:=.none,builtins:=0}, #[])
def iq:Obj:=cQ' 452941932133 127491819798467822498308693 1099 357 2 696 1104
def jq:Obj:=fO "depth" "Table.depth" (fB (lB 53) 6) (s SD 1039) (.ref 701)
def kq:Obj:=((.type "tuple"),none,.seq #[(.str "shape" 1107),(.str "top" 1108)] 0, #[])
def lq:Obj:=((.type "getset_descriptor"),none,.fields ⟨[s qE 1110,.ref 705,(.builtin "function.__dict__"),(.builtin "function.__dict__#set")]⟩, #[])
def mq:Obj:=((.type "getset_descriptor"),none,.fields ⟨[s aE 1112,.ref 705,(.builtin "ExceptionGroup.__weakref__"),.none]⟩, #[])
def nq:Obj:=((.type "super"),none,.fields ⟨[.ref 705,.ref 705,.ref 705]⟩, #[])
def oq:Obj:=((.type "builtin_function_or_method"),none,.fields ⟨[(.builtin "object.__init_subclass__"),.ref 705]⟩, #[])
def pq (P:Params):Obj:=dO 19 [e P xC 1126 (s IC 1117),e P JC 1128 (s HI 1127),e P yC 1130 (.int (360) 1129),e P LC 1139 (.ref 723),e P oF 1147 (.ref 730),e P lG 1155 (.ref 737),e P pF 1164 (.ref 744),e P mG 1172 (.ref 751),e P HF 1180 (.ref 758),e P 7698033 1189 (.ref 765),e P 1718379125 1197 (.ref 772),e P oH 1207 (.ref 779),e P 120316569609843 1216 (.ref 786),e P 6714486 1225 (.ref 793),e P BE 1233 (.ref 800),e P DE 1241 (.ref 807),e P yD 1249 (.ref 814),e P EE 1256 (.ref 821),e P zC 1261 (.ref 822)]
def rq:Obj:=(.none,none,.fields ⟨[i 362,i 4,.ref 722,i 368,i 4,.ref 729,i 371,i 4,.ref 736,i 374,i 4,.ref 743,i 377,i 4,.ref 750,i 380,i 4,.ref 757,i 385,i 4,.ref 764,i 394,i 4,.ref 771,i 401,i 4,.ref 778,i 406,i 4,.ref 785,i 409,i 4,.ref 792,i 412,i 4,.ref 799,i 415,i 4,.ref 806,i 418,i 4,.ref 813,i 421,i 4,.ref 820]⟩, #[])
def tq:Obj:=cR' HI HI 1121 360 713 1124
def uq:Obj:=((.type "frame"),none,.plain, #[(some (.ref 715)),(some (.ref 3)),(some (.ref 712)),none,(some (s IC 1117)),none,(some (.ref 0))])
def vq:Obj:=tO [s DB 1134,s 439988939124 1135,s 127983119658353 1136]
def wq:Obj:=(.none,none,.func {name:=(S LC),qualname:=(S 128106729568361558357101502686075121478),params:=kB (fB (lB 55) 0),body:=.stmts (jB (fB (lB 55) 0)),scope:=iB (fB (lB 55) 0),globals:=0,closure:=[],defaults:=.none,kwdefaults:=.none,doc:=.none,pyModule:=.none,annotations:=none,code:=.none,closureTuple:=.none,builtins:=0}, #[])
def xq:Obj:=tO [s DB 1143,s gC 1144]
def yq:Obj:=(.none,none,.func {name:=(S oF),qualname:=(S 36905197300746844619244348587026490421062),params:=kB (fB (lB 55) 1),body:=.stmts (jB (fB (lB 55) 1)),scope:=iB (fB (lB 55) 1),globals:=0,closure:=[],defaults:=.none,kwdefaults:=.none,doc:=.none,pyModule:=.none,annotations:=none,code:=.none,closureTuple:=.none,builtins:=0}, #[])
def zq:Obj:=tO [s DB 1151,s gC 1152]
def Qq:Obj:=(.none,none,.func {name:=(S lG),qualname:=(S 9447730508990483500631942148406294617616198),params:=kB (fB (lB 55) 2),body:=.stmts (jB (fB (lB 55) 2)),scope:=iB (fB (lB 55) 2),globals:=0,closure:=[],defaults:=.none,kwdefaults:=.none,doc:=.none,pyModule:=.none,annotations:=none,code:=.none,closureTuple:=.none,builtins:=0}, #[])
def Rq:Obj:=cQ' lG 9447730508990483500631942148406294617616198 1148 371 2 731 1153
def Sq:Obj:=fO "close_task" "Entries.close_task" (fB (lB 55) 2) (s IC 1117) (.ref 736)
def Tq:Obj:=tO [s DB 1159,s VD 1160,s jD 1161]
def Uq:Obj:=(.none,none,.func {name:=(S pF),qualname:=(S 36898550795684547174149761920674565549894),params:=kB (fB (lB 55) 3),body:=.stmts (jB (fB (lB 55) 3)),scope:=iB (fB (lB 55) 3),globals:=0,closure:=[],defaults:=.none,kwdefaults:=.none,doc:=.none,pyModule:=.none,annotations:=none,code:=.none,closureTuple:=.none,builtins:=0}, #[])
def Vq:Obj:=tO [s DB 1168,s VD 1169]
def Wq:Obj:=(.none,none,.func {name:=(S mG),qualname:=(S 9446029003694535354687727961820201850597190),params:=kB (fB (lB 55) 4),body:=.stmts (jB (fB (lB 55) 4)),scope:=iB (fB (lB 55) 4),globals:=0,closure:=[],defaults:=.none,kwdefaults:=.none,doc:=.none,pyModule:=.none,annotations:=none,code:=.none,closureTuple:=.none,builtins:=0}, #[])
def Xq:Obj:=cQ' mG 9446029003694535354687727961820201850597190 1165 377 2 745 1170
def Yq:Obj:=fO "close_bank" "Entries.close_bank" (fB (lB 55) 4) (s IC 1117) (.ref 750)
def Zq:Obj:=tO [s DB 1176,s 126883625529449 1177]
def ar:Obj:=(.none,none,.func {name:=(S HF),qualname:=(S 33560311671662761948919197510),params:=kB (fB (lB 55) 5),body:=.stmts (jB (fB (lB 55) 5)),scope:=iB (fB (lB 55) 5),globals:=0,closure:=[],defaults:=.none,kwdefaults:=.none,doc:=.none,pyModule:=.none,annotations:=none,code:=.none,closureTuple:=.none,builtins:=0}, #[])
def br:Obj:=cQ' HF 33560311671662761948919197510 1173 380 2 752 1178
def cr:Obj:=fO "look" "Entries.look" (fB (lB 55) 5) (s IC 1117) (.ref 757)
def er:Obj:=tO [s DB 1184,s 126883625529449 1185,s TD 1186]
def jr:Obj:=(.none,none,.func {name:=(S 7698033),qualname:=(S 142003648041441185225862982),params:=kB (fB (lB 55) 6),body:=.stmts (jB (fB (lB 55) 6)),scope:=iB (fB (lB 55) 6),globals:=0,closure:=[],defaults:=.none,kwdefaults:=.none,doc:=.none,pyModule:=.none,annotations:=none,code:=.none,closureTuple:=.none,builtins:=0}, #[])
def kr:Obj:=cQ' 7698033 142003648041441185225862982 1181 385 3 759 1187
def lr:Obj:=fO "put" "Entries.put" (fB (lB 55) 6) (s IC 1117) (.ref 764)
def mr:Obj:=tO [s DB 1193,s 126883625529449 1194]
def nr:Obj:=(.none,none,.func {name:=(S 1718379125),qualname:=(S 31698499943899425434515107654),params:=kB (fB (lB 55) 7),body:=.stmts (jB (fB (lB 55) 7)),scope:=iB (fB (lB 55) 7),globals:=0,closure:=[],defaults:=.none,kwdefaults:=.none,doc:=.none,pyModule:=.none,annotations:=none,code:=.none,closureTuple:=.none,builtins:=0}, #[])
def qr:Obj:=cQ' 1718379125 31698499943899425434515107654 1190 394 2 766 1195
def sr:Obj:=fO "take" "Entries.take" (fB (lB 55) 7) (s IC 1117) (.ref 771)
def ur:Obj:=tO [s DB 1201,s gC 1202,s KC 1203,s TD 1204]
def xr:Obj:=(.none,none,.func {name:=(S oH),qualname:=(S 153392850500185452534608126649558200134),params:=kB (fB (lB 55) 8),body:=.stmts (jB (fB (lB 55) 8)),scope:=iB (fB (lB 55) 8),globals:=0,closure:=[],defaults:=.none,kwdefaults:=.none,doc:=.none,pyModule:=.none,annotations:=none,code:=.none,closureTuple:=.none,builtins:=0}, #[])
def yr:Obj:=cQ' oH 153392850500185452534608126649558200134 1198 401 3 773 1205
def zr:Obj:=fO "remember" "Entries.remember" (fB (lB 55) 8) (s IC 1117) (.ref 778)
def Qr:Obj:=tO [s DB 1211,s gC 1212,s KC 1213]
def Rr:Obj:=(.none,none,.func {name:=(S 120316569609843),qualname:=(S 2219448967419437518579404060847942),params:=kB (fB (lB 55) 9),body:=.stmts (jB (fB (lB 55) 9)),scope:=iB (fB (lB 55) 9),globals:=0,closure:=[],defaults:=.none,kwdefaults:=.none,doc:=.none,pyModule:=.none,annotations:=none,code:=.none,closureTuple:=.none,builtins:=0}, #[])
def Sr:Obj:=cQ' 120316569609843 2219448967419437518579404060847942 1208 406 3 780 1214
def Tr:Obj:=fO "recall" "Entries.recall" (fB (lB 55) 9) (s IC 1117) (.ref 785)
def Ur:Obj:=tO [s DB 1220,s gC 1221,s KC 1222]
def Vr:Obj:=(.none,none,.func {name:=(S 6714486),qualname:=(S 123860408247976376862601030),params:=kB (fB (lB 55) 10),body:=.stmts (jB (fB (lB 55) 10)),scope:=iB (fB (lB 55) 10),globals:=0,closure:=[],defaults:=.none,kwdefaults:=.none,doc:=.none,pyModule:=.none,annotations:=none,code:=.none,closureTuple:=.none,builtins:=0}, #[])
def Wr:Obj:=cQ' 6714486 123860408247976376862601030 1217 409 3 787 1223
def Xr:Obj:=fO "use" "Entries.use" (fB (lB 55) 10) (s IC 1117) (.ref 792)
def Yr:Obj:=tO [s DB 1229,s gC 1230]
def Zr:Obj:=(.none,none,.func {name:=(S BE),qualname:=(S 36905197300743758226996739676242368098118),params:=kB (fB (lB 55) 11),body:=.stmts (jB (fB (lB 55) 11)),scope:=iB (fB (lB 55) 11),globals:=0,closure:=[],defaults:=.none,kwdefaults:=.none,doc:=.none,pyModule:=.none,annotations:=none,code:=.none,closureTuple:=.none,builtins:=0}, #[])
def rs:Obj:=tO [s DB 1237,s VD 1238]
def Qs:Obj:=(.none,none,.func {name:=(S DE),qualname:=(S 36898550795681460781902153009890443226950),params:=kB (fB (lB 55) 12),body:=.stmts (jB (fB (lB 55) 12)),scope:=iB (fB (lB 55) 12),globals:=0,closure:=[],defaults:=.none,kwdefaults:=.none,doc:=.none,pyModule:=.none,annotations:=none,code:=.none,closureTuple:=.none,builtins:=0}, #[])
def Rs:Obj:=tO [s DB 1245,s gC 1246]
def Ss:Obj:=(.none,none,.func {name:=(S yD),qualname:=(S YN),params:=kB (fB (lB 55) 13),body:=.stmts (jB (fB (lB 55) 13)),scope:=iB (fB (lB 55) 13),globals:=0,closure:=[],defaults:=.none,kwdefaults:=.none,doc:=.none,pyModule:=.none,annotations:=none,code:=.none,closureTuple:=.none,builtins:=0}, #[])
def Ts:Obj:=tO [s DB 1253]
def Us:Obj:=(.none,none,.func {name:=(S EE),qualname:=(S 36899952715833265185361856243899332652870),params:=kB (fB (lB 55) 14),body:=.stmts (jB (fB (lB 55) 14)),scope:=iB (fB (lB 55) 14),globals:=0,closure:=[],defaults:=.none,kwdefaults:=.none,doc:=.none,pyModule:=.none,annotations:=none,code:=.none,closureTuple:=.none,builtins:=0}, #[])
def Vs:Obj:=((.type "tuple"),none,.seq #[(.str "banks" 1257),(.str "book" 1258),(.str "shape" 1259),(.str "tables" 1260)] 0, #[])
def Ws:Obj:=((.type "getset_descriptor"),none,.fields ⟨[s qE 1262,.ref 824,(.builtin "function.__dict__"),(.builtin "function.__dict__#set")]⟩, #[])
def Xs:Obj:=((.type "getset_descriptor"),none,.fields ⟨[s aE 1264,.ref 824,(.builtin "ExceptionGroup.__weakref__"),.none]⟩, #[])
def Ys:Obj:=((.type "super"),none,.fields ⟨[.ref 824,.ref 824,.ref 824]⟩, #[])
def Zs:Obj:=((.type "builtin_function_or_method"),none,.fields ⟨[(.builtin "object.__init_subclass__"),.ref 824]⟩, #[])
def bt (P:Params):Obj:=dO 7 [e P xC 1278 (s iD 1269),e P JC 1280 (s II 1279),e P yC 1282 (.int (424) 1281),e P LC 1291 (.ref 842),e P pH 1298 (.ref 849),e P qH 1305 (.ref 856),e P zC 1308 (.ref 857)]
def ft:Obj:=(.none,none,.fields ⟨[i 426,i 4,.ref 841,i 430,i 4,.ref 848,i 433,i 4,.ref 855]⟩, #[])
def jt:Obj:=cR' II II 1273 424 832 1276
def kt:Obj:=((.type "frame"),none,.plain, #[(some (.ref 834)),(some (.ref 3)),(some (.ref 831)),none,(some (s iD 1269)),none,(some (.ref 0))])
def nt:Obj:=tO [s DB 1286,s 499935440995 1287,s 126883625529449 1288]
def ot:Obj:=(.none,none,.func {name:=(S LC),qualname:=(S 1954753563970360692704800173091156),params:=kB (fB (lB 57) 0),body:=.stmts (jB (fB (lB 57) 0)),scope:=iB (fB (lB 57) 0),globals:=0,closure:=[],defaults:=.none,kwdefaults:=.none,doc:=.none,pyModule:=.none,annotations:=none,code:=.none,closureTuple:=.none,builtins:=0}, #[])
def qt:Obj:=cQ' LC 1954753563970360692704800173091156 1283 426 3 836 1289
def ut:Obj:=fO "__init__" "Sheet.__init__" (fB (lB 57) 0) (s iD 1269) (.ref 841)
def vt:Obj:=tO [s DB 1295]
def wt:Obj:=(.none,none,.func {name:=(S pH),qualname:=(S 10144293748177338121204804511615218490960212),params:=kB (fB (lB 57) 1),body:=.stmts (jB (fB (lB 57) 1)),scope:=iB (fB (lB 57) 1),globals:=0,closure:=[],defaults:=.none,kwdefaults:=.none,doc:=.none,pyModule:=.none,annotations:=none,code:=.none,closureTuple:=.none,builtins:=0}, #[])
def xt:Obj:=tO [s DB 1302]
def yt:Obj:=(.none,none,.func {name:=(S qH),qualname:=(S 526499379604921715462623747400690004),params:=kB (fB (lB 57) 2),body:=.stmts (jB (fB (lB 57) 2)),scope:=iB (fB (lB 57) 2),globals:=0,closure:=[],defaults:=.none,kwdefaults:=.none,doc:=.none,pyModule:=.none,annotations:=none,code:=.none,closureTuple:=.none,builtins:=0}, #[])
def zt:Obj:=cQ' qH 526499379604921715462623747400690004 1299 433 1 850 1303
def Qt:Obj:=fO "is_banked" "Sheet.is_banked" (fB (lB 57) 2) (s iD 1269) (.ref 855)
def Rt:Obj:=((.type "tuple"),none,.seq #[(.str "boxes" 1306),(.str "holders" 1307)] 0, #[])
def Tt:Obj:=((.type "getset_descriptor"),none,.fields ⟨[s qE 1309,.ref 859,(.builtin "function.__dict__"),(.builtin "function.__dict__#set")]⟩, #[])
def Ut:Obj:=((.type "getset_descriptor"),none,.fields ⟨[s aE 1311,.ref 859,(.builtin "ExceptionGroup.__weakref__"),.none]⟩, #[])
def Vt:Obj:=((.type "super"),none,.fields ⟨[.ref 859,.ref 859,.ref 859]⟩, #[])
def Wt:Obj:=((.type "builtin_function_or_method"),none,.fields ⟨[(.builtin "object.__init_subclass__"),.ref 859]⟩, #[])
def Yt (P:Params):Obj:=dO 8 [e P xC 1323 (s iD 1269),e P JC 1325 (s JI 1324),e P yC 1327 (.int (435) 1326),e P LC 1335 (.ref 877),e P sH 1344 (.ref 884),e P tH 1352 (.ref 891),e P rH 1358 (.ref 896),e P zC 1361 (.ref 897)]
def Zt:Obj:=(.none,none,.fields ⟨[i 437,i 4,.ref 876,i 441,i 4,.ref 883,i 447,i 4,.ref 890,i 453,i 4,.ref 895]⟩, #[])
def au:Obj:=cR' JI JI 1318 435 867 1321
def bu:Obj:=((.type "frame"),none,.plain, #[(some (.ref 869)),(some (.ref 3)),(some (.ref 866)),none,(some (s iD 1269)),none,(some (.ref 0))])
def cu:Obj:=tO [s DB 1331,s jD 1332]
def du:Obj:=(.none,none,.func {name:=(S LC),qualname:=(S 1954753563970360692704796130439508),params:=kB (fB (lB 58) 0),body:=.stmts (jB (fB (lB 58) 0)),scope:=iB (fB (lB 58) 0),globals:=0,closure:=[],defaults:=.none,kwdefaults:=.none,doc:=.none,pyModule:=.none,annotations:=none,code:=.none,closureTuple:=.none,builtins:=0}, #[])
def eu:Obj:=tO [s DB 1339,s VE 1340,s 504229161332 1341]
def fu:Obj:=(.none,none,.func {name:=(S sH),qualname:=(S 41670557408582523668509479316187165782356),params:=kB (fB (lB 58) 1),body:=.stmts (jB (fB (lB 58) 1)),scope:=iB (fB (lB 58) 1),globals:=0,closure:=[],defaults:=.none,kwdefaults:=.none,doc:=.none,pyModule:=.none,annotations:=none,code:=.none,closureTuple:=.none,builtins:=0}, #[])
def gu:Obj:=cQ' sH 41670557408582523668509479316187165782356 1336 441 1 878 1342
def iu:Obj:=fO "first_empty" "Spots.first_empty" (fB (lB 58) 1) (s iD 1269) (.ref 883)
def ju:Obj:=tO [s DB 1348,s 1869248629 1349]
def ku:Obj:=(.none,none,.func {name:=(S tH),qualname:=(S 148097134187830361177623957051129491796),params:=kB (fB (lB 58) 2),body:=.stmts (jB (fB (lB 58) 2)),scope:=iB (fB (lB 58) 2),globals:=0,closure:=[],defaults:=.none,kwdefaults:=.none,doc:=.none,pyModule:=.none,annotations:=none,code:=.none,closureTuple:=.none,builtins:=0}, #[])
def lu:Obj:=cQ' tH 148097134187830361177623957051129491796 1345 447 1 885 1350
def ou:Obj:=fO "first_twin" "Spots.first_twin" (fB (lB 58) 2) (s iD 1269) (.ref 890)
def pu:Obj:=(.none,none,.func {name:=(S rH),qualname:=(S 156098422687084997236258294064131109204),params:=kB (fB (lB 58) 3),body:=.stmts (jB (fB (lB 58) 3)),scope:=iB (fB (lB 58) 3),globals:=0,closure:=[],defaults:=.none,kwdefaults:=.none,doc:=.none,pyModule:=.none,annotations:=none,code:=.none,closureTuple:=.none,builtins:=0}, #[])
def qu:Obj:=((.type "tuple"),none,.seq #[(.str "lying" 1359),(.str "twins" 1360)] 0, #[])
def su:Obj:=((.type "getset_descriptor"),none,.fields ⟨[s qE 1362,.ref 899,(.builtin "function.__dict__"),(.builtin "function.__dict__#set")]⟩, #[])
def tu:Obj:=((.type "getset_descriptor"),none,.fields ⟨[s aE 1364,.ref 899,(.builtin "ExceptionGroup.__weakref__"),.none]⟩, #[])
def uu:Obj:=((.type "super"),none,.fields ⟨[.ref 899,.ref 899,.ref 899]⟩, #[])
def wu:Obj:=((.type "builtin_function_or_method"),none,.fields ⟨[(.builtin "object.__init_subclass__"),.ref 899]⟩, #[])
section
variable (P:Params)
def xu (P:Params):W.BT:=.node AO .nil .nil
def yu (P:Params):W.BT:=.node BB .nil .nil
def zu (P:Params):W.BT:=.node bp .nil .nil
def Qu (P:Params):W.BT:=.node yP .nil .nil
def Ru (P:Params):W.BT:=.node wn .nil .nil
def Su:W.BT:=.node (bt P) .nil .nil
def Tu (P:Params):W.BT:=.node kq .nil .nil
def Uu:W.BT:=.node NZ (.node (W0 P) (.node (d5 P) (xu P) (yu P)) (.node (yj P) (zu P) (Qu P))) (.node T3 (.node Q6 (Ru P) (Su P)) (.node Zk (Tu P) .nil))
def Vu (P:Params):W.BT:=.node zm .nil .nil
def Wu (P:Params):W.BT:=.node iP .nil .nil
def Xu (P:Params):W.BT:=.node BB .nil .nil
def Yu (P:Params):W.BT:=.node ko .nil .nil
def Zu (P:Params):W.BT:=.node Wt .nil .nil
def av (P:Params):W.BT:=.node Qq .nil .nil
def bv:W.BT:=.node i0 (.node u2 (.node X5 (Vu P) (Wu P)) (.node jk (Xu P) .nil)) (.node jL (.node BB (Yu P) (Zu P)) (.node Rl (av P) .nil))
def cv (P:Params):W.BT:=.node pB .nil .nil
def dv (P:Params):W.BT:=.node pB .nil .nil
def fv (P:Params):W.BT:=.node qp .nil .nil
def gv (P:Params):W.BT:=.node BB .nil .nil
def jv (P:Params):W.BT:=.node wt .nil .nil
def lv (P:Params):W.BT:=.node vq .nil .nil
def nv:W.BT:=.node (VZ P) (.node S1 (.node pB (cv P) (dv P)) (.node Wj (fv P) .nil)) (.node pB (.node rL (gv P) (jv P)) (.node ql (lv P) .nil))
def pv (P:Params):W.BT:=.node bn .nil .nil
def qv (P:Params):W.BT:=.node pB .nil .nil
def sv (P:Params):W.BT:=.node VO .nil .nil
def vv (P:Params):W.BT:=.node pB .nil .nil
def wv (P:Params):W.BT:=.node BB .nil .nil
def xv (P:Params):W.BT:=.node Yq .nil .nil
def yv:W.BT:=.node x0 (.node (Y2 P) (.node pB (pv P) (qv P)) (.node pB (sv P) .nil)) (.node pB (.node W7 (vv P) (wv P)) (.node BB (xv P) .nil))
def zv (P:Params):W.BT:=.node DO .nil .nil
def Qv (P:Params):W.BT:=.node ur .nil .nil
def Rv (P:Params):W.BT:=.node QO .nil .nil
def Sv (P:Params):W.BT:=.node wu .nil .nil
def Tv (P:Params):W.BT:=.node pB .nil .nil
def Uv (P:Params):W.BT:=.node pB .nil .nil
def Vv (P:Params):W.BT:=.node eD .nil .nil
def Wv:W.BT:=.node fD (.node Z0 (.node pB (zv P) (Qv P)) (.node pB (Rv P) (Sv P))) (.node Y3 (.node V6 (Tv P) (Uv P)) (.node pB (Vv P) .nil))
def Xv (P:Params):W.BT:=.node pB .nil .nil
def Yv (P:Params):W.BT:=.node lP .nil .nil
def Zv (P:Params):W.BT:=.node Xp .nil .nil
def aw (P:Params):W.BT:=.node wo .nil .nil
def bw (P:Params):W.BT:=.node pB .nil .nil
def cw (P:Params):W.BT:=.node fP .nil .nil
def dw:W.BT:=.node (p0 P) (.node T2 (.node d6 (Xv P) (Yv P)) (.node pB (Zv P) .nil)) (.node mL (.node v7 (aw P) (bw P)) (.node pB (cw P) .nil))
def fw:W.BT:=.node (EO P) .nil .nil
def gw (P:Params):W.BT:=.node Vr .nil .nil
def iw (P:Params):W.BT:=.node pB .nil .nil
def jw (P:Params):W.BT:=.node fo .nil .nil
def lw (P:Params):W.BT:=.node zt .nil .nil
def mw (P:Params):W.BT:=.node pB .nil .nil
def nw:W.BT:=.node YZ (.node (V1 P) (.node S5 (fw P) (gw P)) (.node Zj (iw P) .nil)) (.node j4 (.node pB (jw P) (lw P)) (.node uO (mw P) .nil))
def qw (P:Params):W.BT:=.node gn .nil .nil
def sw:W.BT:=.node (qP P) .nil .nil
def uw (P:Params):W.BT:=.node YO .nil .nil
def ww (P:Params):W.BT:=.node BB .nil .nil
def yw (P:Params):W.BT:=.node ju .nil .nil
def zw (P:Params):W.BT:=.node pB .nil .nil
def Qw:W.BT:=.node T0 (.node u3 (.node BB (qw P) (sw P)) (.node BB (uw P) .nil)) (.node BB (.node BB (ww P) (yw P)) (.node dm (zw P) .nil))
def Rw:W.BT:=.node (W.boot_o_7 P) (.node pB (.node uZ (Uu P) (bv P)) (.node DZ (nv P) (yv P))) (.node BB (.node pB (Wv P) (dw P)) (.node IZ (nw P) (Qw P)))
def Sw (P:Params):W.BT:=.node im .nil .nil
def Tw (P:Params):W.BT:=.node qr .nil .nil
def Uw (P:Params):W.BT:=.node BB .nil .nil
def Vw (P:Params):W.BT:=.node CP .nil .nil
def Ww (P:Params):W.BT:=.node pB .nil .nil
def Xw (P:Params):W.BT:=.node kt .nil .nil
def Yw (P:Params):W.BT:=.node mq .nil .nil
def Zw:W.BT:=.node pB (.node Y0 (.node l5 (Sw P) (Tw P)) (.node Sj (Uw P) (Vw P))) (.node W3 (.node BB (Ww P) (Xw P)) (.node gl (Yw P) .nil))
def ax (P:Params):W.BT:=.node Um .nil .nil
def bx (P:Params):W.BT:=.node rs .nil .nil
def cx (P:Params):W.BT:=.node Vp .nil .nil
def fx (P:Params):W.BT:=.node NO .nil .nil
def gx (P:Params):W.BT:=.node pB .nil .nil
def jx (P:Params):W.BT:=.node BB .nil .nil
def kx:W.BT:=.node l0 (.node (Q2 P) (.node Z5 (ax P) (bx P)) (.node pB (cx P) .nil)) (.node u4 (.node pB (fx P) (gx P)) (.node pB (jx P) .nil))
def lx (P:Params):W.BT:=.node rm .nil .nil
def mx (P:Params):W.BT:=.node pB .nil .nil
def ox (P:Params):W.BT:=.node pB .nil .nil
def px (P:Params):W.BT:=.node ao .nil .nil
def qx (P:Params):W.BT:=.node BB .nil .nil
def sx (P:Params):W.BT:=.node cP .nil .nil
def ux:W.BT:=.node XZ (.node T1 (.node pB (lx P) (mx P)) (.node BB (ox P) .nil)) (.node pB (.node pB (px P) (qx P)) (.node BB (sx P) .nil))
def vx (P:Params):W.BT:=.node BB .nil .nil
def wx (P:Params):W.BT:=.node Us .nil .nil
def xx (P:Params):W.BT:=.node cq .nil .nil
def yx (P:Params):W.BT:=.node To .nil .nil
def zx (P:Params):W.BT:=.node gu .nil .nil
def Qx (P:Params):W.BT:=.node pB .nil .nil
def Rx:W.BT:=.node (Q0 P) (.node i3 (.node p6 (vx P) (wx P)) (.node Rk (xx P) .nil)) (.node U4 (.node Y7 (yx P) (zx P)) (.node am (Qx P) .nil))
def Sx (P:Params):W.BT:=.node pB .nil .nil
def Tx (P:Params):W.BT:=.node zr .nil .nil
def Ux:W.BT:=.node (ip P) .nil .nil
def Vx (P:Params):W.BT:=.node Vn .nil .nil
def Wx (P:Params):W.BT:=.node pB .nil .nil
def Xx (P:Params):W.BT:=.node tq .nil .nil
def Yx:W.BT:=.node TZ (.node (y1 P) (.node o5 (Sx P) (Tx P)) (.node pB (Ux P) .nil)) (.node fL (.node X6 (Vx P) (Wx P)) (.node pB (Xx P) .nil))
def Zx (P:Params):W.BT:=.node pB .nil .nil
def ay (P:Params):W.BT:=.node pB .nil .nil
def cy (P:Params):W.BT:=.node aq .nil .nil
def dy (P:Params):W.BT:=.node pB .nil .nil
def fy (P:Params):W.BT:=.node du .nil .nil
def gy (P:Params):W.BT:=.node Vq .nil .nil
def iy:W.BT:=.node r0 (.node W2 (.node pB (Zx P) (ay P)) (.node vk (cy P) .nil)) (.node pB (.node BB (dy P) (fy P)) (.node Vl (gy P) .nil))
def jy (P:Params):W.BT:=.node xm .nil .nil
def ky (P:Params):W.BT:=.node BB .nil .nil
def my (P:Params):W.BT:=.node xp .nil .nil
def ny (P:Params):W.BT:=.node LO .nil .nil
def oy (P:Params):W.BT:=.node vP .nil .nil
def py (P:Params):W.BT:=.node pB .nil .nil
def qy:W.BT:=.node (b0 P) (.node X1 (.node BB (jy P) (ky P)) (.node fk (my P) .nil)) (.node BB (.node j7 (ny P) (oy P)) (.node xl (py P) .nil))
def sy (P:Params):W.BT:=.node ln .nil .nil
def uy (P:Params):W.BT:=.node Ys .nil .nil
def vy (P:Params):W.BT:=.node pB .nil .nil
def wy (P:Params):W.BT:=.node Yo .nil .nil
def xy (P:Params):W.BT:=.node ou .nil .nil
def yy (P:Params):W.BT:=.node jr .nil .nil
def zy:W.BT:=.node U0 (.node (Q3 P) (.node x6 (sy P) (uy P)) (.node Xk (vy P) .nil)) (.node Z4 (.node jO (wy P) (xy P)) (.node BB (yy P) .nil))
def Qy:W.BT:=.node pB (.node nZ (.node xZ (Zw P) (kx P)) (.node BB (ux P) (Rx P))) (.node sZ (.node pB (Yx P) (iy P)) (.node KZ (qy P) (zy P)))
def Ry (P:Params):W.BT:=.node pB .nil .nil
def Sy (P:Params):W.BT:=.node pB .nil .nil
def Uy (P:Params):W.BT:=.node PO .nil .nil
def Vy (P:Params):W.BT:=.node qu .nil .nil
def Wy (P:Params):W.BT:=.node BB .nil .nil
def Xy (P:Params):W.BT:=.node ft .nil .nil
def Yy (P:Params):W.BT:=.node aP .nil .nil
def Zy:W.BT:=.node eD (.node BB (.node i5 (Ry P) (Sy P)) (.node zj (Uy P) (Vy P))) (.node (U3 P) (.node S6 (Wy P) (Xy P)) (.node al (Yy P) .nil))
def az (P:Params):W.BT:=.node Rm .nil .nil
def bz (P:Params):W.BT:=.node pB .nil .nil
def cz (P:Params):W.BT:=.node pB .nil .nil
def dz (P:Params):W.BT:=.node oo .nil .nil
def ez (P:Params):W.BT:=.node eD .nil .nil
def fz (P:Params):W.BT:=.node Sq .nil .nil
def gz:W.BT:=.node (CW P) (.node bE (.node pB (az P) (bz P)) (.node BB (cz P) .nil)) (.node pB (.node p7 (dz P) (ez P)) (.node BB (fz P) .nil))
def iz (P:Params):W.BT:=.node qm .nil .nil
def jz (P:Params):W.BT:=.node Sr .nil .nil
def kz (P:Params):W.BT:=.node BB .nil .nil
def lz (P:Params):W.BT:=.node pB .nil .nil
def mz (P:Params):W.BT:=.node tP .nil .nil
def nz (P:Params):W.BT:=.node wq .nil .nil
def oz:W.BT:=.node BB (.node (cL P) (.node x5 (iz P) (jz P)) (.node oO (kz P) .nil)) (.node gL (.node BB (lz P) (mz P)) (.node sO (nz P) .nil))
def pz (P:Params):W.BT:=.node JO .nil .nil
def qz (P:Params):W.BT:=.node Ts .nil .nil
def rz (P:Params):W.BT:=.node pB .nil .nil
def tz (P:Params):W.BT:=.node So .nil .nil
def uz (P:Params):W.BT:=.node pB .nil .nil
def vz (P:Params):W.BT:=.node BB .nil .nil
def wz:W.BT:=.node bE (.node BB (.node n6 (pz P) (qz P)) (.node zk (rz P) .nil)) (.node T4 (.node tL (tz P) (uz P)) (.node pB (vz P) .nil))
def xz (P:Params):W.BT:=.node BB .nil .nil
def yz (P:Params):W.BT:=.node xr .nil .nil
def zz (P:Params):W.BT:=.node fD .nil .nil
def Qz (P:Params):W.BT:=.node Tn .nil .nil
def Rz (P:Params):W.BT:=.node qt .nil .nil
def Sz (P:Params):W.BT:=.node pB .nil .nil
def Tz:W.BT:=.node zW (.node bE (.node nL (xz P) (yz P)) (.node lO (zz P) .nil)) (.node Z3 (.node pB (Qz P) (Rz P)) (.node kl (Sz P) .nil))
def Uz (P:Params):W.BT:=.node Xm .nil .nil
def Vz (P:Params):W.BT:=.node BB .nil .nil
def Wz (P:Params):W.BT:=.node Yp .nil .nil
def Xz (P:Params):W.BT:=.node BB .nil .nil
def Yz (P:Params):W.BT:=.node cu .nil .nil
def Zz (P:Params):W.BT:=.node pB .nil .nil
def avv:W.BT:=.node BB (.node (U2 P) (.node BB (Uz P) (Vz P)) (.node uk (Wz P) .nil)) (.node BB (.node R7 (Xz P) (Yz P)) (.node Ul (Zz P) .nil))
def am5 (P:Params):W.BT:=.node vm .nil .nil
def am6 (P:Params):W.BT:=.node Xr .nil .nil
def am7 (P:Params):W.BT:=.node wp .nil .nil
def am8 (P:Params):W.BT:=.node io .nil .nil
def am9 (P:Params):W.BT:=.node Rt .nil .nil
def ana (P:Params):W.BT:=.node dP .nil .nil
def a2u:W.BT:=.node bE (.node BB (.node U5 (am5 P) (am6 P)) (.node pB (am7 P) .nil)) (.node n4 (.node i7 (am8 P) (am9 P)) (.node pB (ana P) .nil))
def anb (P:Params):W.BT:=.node pB .nil .nil
def anc (P:Params):W.BT:=.node Ws .nil .nil
def ane (P:Params):W.BT:=.node BB .nil .nil
def anf (P:Params):W.BT:=.node pB .nil .nil
def ang (P:Params):W.BT:=.node ku .nil .nil
def anh (P:Params):W.BT:=.node er .nil .nil
def avw:W.BT:=.node (YK P) (.node bE (.node pB (anb P) (anc P)) (.node pB (ane P) .nil)) (.node pB (.node pB (anf P) (ang P)) (.node zO (anh P) .nil))
def bfg:W.BT:=.node (W.boot_o_9 P) (.node mZ (.node vZ (Zy P) (gz P)) (.node FZ (oz P) (wz P))) (.node pB (.node AZ (Tz P) (avv P)) (.node pB (a2u P) (avw P)))
def ani (P:Params):W.BT:=.node jm .nil .nil
def anj (P:Params):W.BT:=.node pB .nil .nil
def ank (P:Params):W.BT:=.node pB .nil .nil
def anl (P:Params):W.BT:=.node tu .nil .nil
def anm (P:Params):W.BT:=.node zn .nil .nil
def ano (P:Params):W.BT:=.node BB .nil .nil
def anp (P:Params):W.BT:=.node oq .nil .nil
def a2v:W.BT:=.node QZ (.node (aL P) (.node BB (ani P) (anj P)) (.node BB (ank P) (anl P))) (.node pB (.node pB (anm P) (ano P)) (.node BB (anp P) .nil))
def anq (P:Params):W.BT:=.node eD .nil .nil
def anr (P:Params):W.BT:=.node Qs .nil .nil
def ans (P:Params):W.BT:=.node pB .nil .nil
def ant (P:Params):W.BT:=.node uo .nil .nil
def anu (P:Params):W.BT:=.node au .nil .nil
def anv (P:Params):W.BT:=.node pB .nil .nil
def avx:W.BT:=.node bE (.node BB (.node b6 (anq P) (anr P)) (.node pO (ans P) .nil)) (.node w4 (.node u7 (ant P) (anu P)) (.node wO (anv P) .nil))
def anw (P:Params):W.BT:=.node tm .nil .nil
def anx (P:Params):W.BT:=.node Ur .nil .nil
def anz (P:Params):W.BT:=.node SO .nil .nil
def an0 (P:Params):W.BT:=.node pB .nil .nil
def an1 (P:Params):W.BT:=.node pB .nil .nil
def an2 (P:Params):W.BT:=.node BB .nil .nil
def a2w:W.BT:=.node (AW P) (.node bE (.node R5 (anw P) (anx P)) (.node pB (anz P) .nil)) (.node i4 (.node c7 (an0 P) (an1 P)) (.node pB (an2 P) .nil))
def an3 (P:Params):W.BT:=.node pB .nil .nil
def an4 (P:Params):W.BT:=.node pP .nil .nil
def an5 (P:Params):W.BT:=.node dq .nil .nil
def an6 (P:Params):W.BT:=.node Vo .nil .nil
def an7 (P:Params):W.BT:=.node pB .nil .nil
def an8 (P:Params):W.BT:=.node br .nil .nil
def avy:W.BT:=.node BB (.node (j3 P) (.node u6 (an3 P) (an4 P)) (.node Uk (an5 P) .nil)) (.node W4 (.node b8 (an6 P) (an7 P)) (.node pB (an8 P) .nil))
def an9 (P:Params):W.BT:=.node mm .nil .nil
def aoa (P:Params):W.BT:=.node BB .nil .nil
def aob (P:Params):W.BT:=.node jp .nil .nil
def aoc (P:Params):W.BT:=.node Xn .nil .nil
def aod (P:Params):W.BT:=.node vt .nil .nil
def aoe (P:Params):W.BT:=.node pB .nil .nil
def a2x:W.BT:=.node bE (.node BB (.node BB (an9 P) (aoa P)) (.node Vj (aob P) .nil)) (.node BB (.node Y6 (aoc P) (aod P)) (.node nl (aoe P) .nil))
def aof (P:Params):W.BT:=.node Zm .nil .nil
def aog (P:Params):W.BT:=.node mP .nil .nil
def aoh (P:Params):W.BT:=.node BB .nil .nil
def aoi (P:Params):W.BT:=.node zo .nil .nil
def aoj (P:Params):W.BT:=.node xP .nil .nil
def aok (P:Params):W.BT:=.node Wq .nil .nil
def avz:W.BT:=.node (t0 P) (.node bE (.node l6 (aof P) (aog P)) (.node xk (aoh P) .nil)) (.node R4 (.node T7 (aoi P) (aoj P)) (.node Xl (aok P) .nil))
def aol (P:Params):W.BT:=.node pB .nil .nil
def aom (P:Params):W.BT:=.node pB .nil .nil
def aon (P:Params):W.BT:=.node Qp .nil .nil
def aoo (P:Params):W.BT:=.node BB .nil .nil
def aop (P:Params):W.BT:=.node Ut .nil .nil
def aoq (P:Params):W.BT:=.node zq .nil .nil
def a2y:W.BT:=.node BB (.node (Y1 P) (.node pB (aol P) (aom P)) (.node gk (aon P) .nil)) (.node pB (.node m7 (aoo P) (aop P)) (.node yl (aoq P) .nil))
def aor (P:Params):W.BT:=.node rn .nil .nil
def aos (P:Params):W.BT:=.node fD .nil .nil
def aot (P:Params):W.BT:=.node iq .nil .nil
def aou (P:Params):W.BT:=.node pB .nil .nil
def aov (P:Params):W.BT:=.node BB .nil .nil
def aow (P:Params):W.BT:=.node lr .nil .nil
def av0:W.BT:=.node bE (.node BB (.node pB (aor P) (aos P)) (.node pB (aot P) .nil)) (.node fD (.node fD (aou P) (aov P)) (.node pB (aow P) .nil))
def a6s:W.BT:=.node ZS (.node pZ (.node BB (a2v P) (avx P)) (.node pB (a2w P) (avy P))) (.node pB (.node CZ (a2x P) (avz P)) (.node LZ (a2y P) (av0 P)))
def aox (P:Params):W.BT:=.node BO .nil .nil
def aoy (P:Params):W.BT:=.node mr .nil .nil
def aoz (P:Params):W.BT:=.node OO .nil .nil
def ao0 (P:Params):W.BT:=.node zP .nil .nil
def ao1 (P:Params):W.BT:=.node pB .nil .nil
def ao2 (P:Params):W.BT:=.node pB .nil .nil
def ao3:W.BT:=.node (ZO P) .nil .nil
def a2z:W.BT:=.node OZ (.node pB (.node pB (aox P) (aoy P)) (.node pB (aoz P) (ao0 P))) (.node fD (.node R6 (ao1 P) (ao2 P)) (.node pB (ao3 P) .nil))
def ao4 (P:Params):W.BT:=.node pB .nil .nil
def ao5 (P:Params):W.BT:=.node jP .nil .nil
def ao6 (P:Params):W.BT:=.node Rp .nil .nil
def ao7 (P:Params):W.BT:=.node mo .nil .nil
def ao8 (P:Params):W.BT:=.node fD .nil .nil
def ao9 (P:Params):W.BT:=.node Rq .nil .nil
def a20:W.BT:=.node fD (.node y2 (.node Y5 (ao4 P) (ao5 P)) (.node pB (ao6 P) .nil)) (.node kL (.node o7 (ao7 P) (ao8 P)) (.node pB (ao9 P) .nil))
def apa (P:Params):W.BT:=.node BB .nil .nil
def apb (P:Params):W.BT:=.node Rr .nil .nil
def apc (P:Params):W.BT:=.node pB .nil .nil
def apd (P:Params):W.BT:=.node Yn .nil .nil
def ape (P:Params):W.BT:=.node sP .nil .nil
def apf (P:Params):W.BT:=.node pB .nil .nil
def a21:W.BT:=.node pB (.node fD (.node u5 (apa P) (apb P)) (.node nO (apc P) .nil)) (.node d4 (.node pB (apd P) (ape P)) (.node rO (apf P) .nil))
def apg (P:Params):W.BT:=.node GO .nil .nil
def aph (P:Params):W.BT:=.node BB .nil .nil
def api (P:Params):W.BT:=.node WO .nil .nil
def apj (P:Params):W.BT:=.node BB .nil .nil
def apk (P:Params):W.BT:=.node eu .nil .nil
def apl (P:Params):W.BT:=.node pB .nil .nil
def av1:W.BT:=.node y0 (.node pB (.node BB (apg P) (aph P)) (.node BB (api P) .nil)) (.node BB (.node (sL P) (apj P) (apk P)) (.node Yl (apl P) .nil))
def apm (P:Params):W.BT:=.node pB .nil .nil
def apn (P:Params):W.BT:=.node pB .nil .nil
def apo (P:Params):W.BT:=.node RO .nil .nil
def app (P:Params):W.BT:=.node BB .nil .nil
def apq (P:Params):W.BT:=.node ot .nil .nil
def apr:W.BT:=.node (pq P) .nil .nil
def a22:W.BT:=.node (yW P) (.node u1 (.node n5 (apm P) (apn P)) (.node Uj (apo P) .nil)) (.node pB (.node W6 (app P) (apq P)) (.node jl (apr P) .nil))
def aps (P:Params):W.BT:=.node Wm .nil .nil
def apt (P:Params):W.BT:=.node pB .nil .nil
def apu (P:Params):W.BT:=.node pB .nil .nil
def apv (P:Params):W.BT:=.node pB .nil .nil
def apw (P:Params):W.BT:=.node BB .nil .nil
def apx (P:Params):W.BT:=.node gP .nil .nil
def av2:W.BT:=.node pB (.node fD (.node pB (aps P) (apt P)) (.node BB (apu P) .nil)) (.node pB (.node Q7 (apv P) (apw P)) (.node BB (apx P) .nil))
def apy (P:Params):W.BT:=.node FO .nil .nil
def apz (P:Params):W.BT:=.node Wr .nil .nil
def ap0 (P:Params):W.BT:=.node BB .nil .nil
def ap1 (P:Params):W.BT:=.node pB .nil .nil
def ap2 (P:Params):W.BT:=.node Qt .nil .nil
def ap3 (P:Params):W.BT:=.node yq .nil .nil
def a23:W.BT:=.node ZZ (.node pB (.node T5 (apy P) (apz P)) (.node ak (ap0 P) .nil)) (.node m4 (.node BB (ap1 P) (ap2 P)) (.node vO (ap3 P) .nil))
def ap4 (P:Params):W.BT:=.node jn .nil .nil
def ap5 (P:Params):W.BT:=.node rP .nil .nil
def ap6 (P:Params):W.BT:=.node pB .nil .nil
def ap7 (P:Params):W.BT:=.node Wo .nil .nil
def ap8 (P:Params):W.BT:=.node pB .nil .nil
def ap9 (P:Params):W.BT:=.node BB .nil .nil
def av3:W.BT:=.node fD (.node y3 (.node v6 (ap4 P) (ap5 P)) (.node Vk (ap6 P) .nil)) (.node X4 (.node wj (ap7 P) (ap8 P)) (.node yO (ap9 P) .nil))
def bfh:W.BT:=.node (W.boot_o_8 P) (.node BB (.node pB (a2z P) (a20 P)) (.node EZ (a21 P) (av1 P))) (.node qZ (.node zZ (a22 P) (av2 P)) (.node JZ (a23 P) (av3 P)))
def aqa (P:Params):W.BT:=.node pB .nil .nil
def aqb (P:Params):W.BT:=.node sr .nil .nil
def aqc (P:Params):W.BT:=.node cp .nil .nil
def aqd (P:Params):W.BT:=.node su .nil .nil
def aqe (P:Params):W.BT:=.node yn .nil .nil
def aqf (P:Params):W.BT:=.node pB .nil .nil
def aqg (P:Params):W.BT:=.node nq .nil .nil
def a24:W.BT:=.node BB (.node fD (.node pB (aqa P) (aqb P)) (.node pB (aqc P) (aqd P))) (.node X3 (.node T6 (aqe P) (aqf P)) (.node pB (aqg P) .nil))
def aqh (P:Params):W.BT:=.node fD .nil .nil
def aqi (P:Params):W.BT:=.node pB .nil .nil
def aqj (P:Params):W.BT:=.node Wp .nil .nil
def aqk (P:Params):W.BT:=.node qo .nil .nil
def aql (P:Params):W.BT:=.node Zt .nil .nil
def aqm (P:Params):W.BT:=.node Tq .nil .nil
def av4:W.BT:=.node o0 (.node pB (.node pB (aqh P) (aqi P)) (.node sk (aqj P) .nil)) (.node pB (.node BB (aqk P) (aql P)) (.node Tl (aqm P) .nil))
def aqn (P:Params):W.BT:=.node sm .nil .nil
def aqo (P:Params):W.BT:=.node BB .nil .nil
def aqp (P:Params):W.BT:=.node vp .nil .nil
def aqq (P:Params):W.BT:=.node bo .nil .nil
def aqr (P:Params):W.BT:=.node xt .nil .nil
def aqs (P:Params):W.BT:=.node pB .nil .nil
def a25:W.BT:=.node fD (.node U1 (.node BB (aqn P) (aqo P)) (.node Xj (aqp P) .nil)) (.node BB (.node b7 (aqq P) (aqr P)) (.node ul (aqs P) .nil))
def aqt (P:Params):W.BT:=.node cn .nil .nil
def aqu (P:Params):W.BT:=.node oP .nil .nil
def aqv (P:Params):W.BT:=.node pB .nil .nil
def aqw (P:Params):W.BT:=.node Uo .nil .nil
def aqx (P:Params):W.BT:=.node iu .nil .nil
def aqy (P:Params):W.BT:=.node ar .nil .nil
def av5:W.BT:=.node pB (.node fD (.node r6 (aqt P) (aqu P)) (.node Tk (aqv P) .nil)) (.node V4 (.node Z7 (aqw P) (aqx P)) (.node cm (aqy P) .nil))
def aqz (P:Params):W.BT:=.node lm .nil .nil
def aq0 (P:Params):W.BT:=.node pB .nil .nil
def aq1 (P:Params):W.BT:=.node pB .nil .nil
def aq2 (P:Params):W.BT:=.node Wn .nil .nil
def aq3 (P:Params):W.BT:=.node BB .nil .nil
def aq4 (P:Params):W.BT:=.node uq .nil .nil
def a26:W.BT:=.node UZ (.node pB (.node pB (aqz P) (aq0 P)) (.node BB (aq1 P) .nil)) (.node pB (.node pB (aq2 P) (aq3 P)) (.node BB (aq4 P) .nil))
def aq5 (P:Params):W.BT:=.node BB .nil .nil
def aq6 (P:Params):W.BT:=.node Ss .nil .nil
def aq7 (P:Params):W.BT:=.node pB .nil .nil
def aq8 (P:Params):W.BT:=.node yo .nil .nil
def aq9 (P:Params):W.BT:=.node wP .nil .nil
def ara (P:Params):W.BT:=.node pB .nil .nil
def av6:W.BT:=.node fD (.node X2 (.node j6 (aq5 P) (aq6 P)) (.node wk (aq7 P) .nil)) (.node Q4 (.node S7 (aq8 P) (aq9 P)) (.node Wl (ara P) .nil))
def arb (P:Params):W.BT:=.node ym .nil .nil
def arc (P:Params):W.BT:=.node Yr .nil .nil
def ard (P:Params):W.BT:=.node yp .nil .nil
def are (P:Params):W.BT:=.node pB .nil .nil
def arf (P:Params):W.BT:=.node Tt .nil .nil
def arh (P:Params):W.BT:=.node BB .nil .nil
def a27:W.BT:=.node pB (.node fD (.node V5 (arb P) (arc P)) (.node pB (ard P) .nil)) (.node o4 (.node l7 (are P) (arf P)) (.node pB (arh P) .nil))
def ari (P:Params):W.BT:=.node pB .nil .nil
def arj (P:Params):W.BT:=.node Zs .nil .nil
def ark (P:Params):W.BT:=.node gq .nil .nil
def arl (P:Params):W.BT:=.node Zo .nil .nil
def arm (P:Params):W.BT:=.node pB .nil .nil
def arn (P:Params):W.BT:=.node kr .nil .nil
def av7:W.BT:=.node V0 (.node pB (.node y6 (ari P) (arj P)) (.node Yk (ark P) .nil)) (.node c5 (.node kO (arl P) (arm P)) (.node fm (arn P) .nil))
def a6t:W.BT:=.node vj (.node oZ (.node pB (a24 P) (av4 P)) (.node GZ (a25 P) (av5 P))) (.node tZ (.node BB (a26 P) (av6 P)) (.node pB (a27 P) (av7 P)))
def aro (P:Params):W.BT:=.node BB .nil .nil
def arp (P:Params):W.BT:=.node nr .nil .nil
def arq (P:Params):W.BT:=.node pB .nil .nil
def arr:W.BT:=.node (BP P) .nil .nil
def ars (P:Params):W.BT:=.node xn .nil .nil
def art (P:Params):W.BT:=.node jt .nil .nil
def aru (P:Params):W.BT:=.node lq .nil .nil
def a28:W.BT:=.node (PZ P) (.node X0 (.node j5 (aro P) (arp P)) (.node Rj (arq P) (arr P))) (.node V3 (.node pB (ars P) (art P)) (.node el (aru P) .nil))
def arv (P:Params):W.BT:=.node Sm .nil .nil
def arw (P:Params):W.BT:=.node BB .nil .nil
def arx (P:Params):W.BT:=.node Tp .nil .nil
def ary:W.BT:=.node (MO P) .nil .nil
def arz:W.BT:=.node (Yt P) .nil .nil
def ar0 (P:Params):W.BT:=.node pB .nil .nil
def a29:W.BT:=.node DW (.node eD (.node BB (arv P) (arw P)) (.node qk (arx P) .nil)) (.node BB (.node t7 (ary P) (arz P)) (.node Sl (ar0 P) .nil))
def ar1 (P:Params):W.BT:=.node pB .nil .nil
def ar2 (P:Params):W.BT:=.node Tr .nil .nil
def ar3 (P:Params):W.BT:=.node rp .nil .nil
def ar4 (P:Params):W.BT:=.node Zn .nil .nil
def ar5 (P:Params):W.BT:=.node pB .nil .nil
def ar6 (P:Params):W.BT:=.node bP .nil .nil
def a3a:W.BT:=.node WZ (.node dL (.node Q5 (ar1 P) (ar2 P)) (.node pB (ar3 P) .nil)) (.node iL (.node Z6 (ar4 P) (ar5 P)) (.node pB (ar6 P) .nil))
def ar7 (P:Params):W.BT:=.node pB .nil .nil
def ar8 (P:Params):W.BT:=.node pB .nil .nil
def ar9 (P:Params):W.BT:=.node BB .nil .nil
def asa (P:Params):W.BT:=.node pB .nil .nil
def asb (P:Params):W.BT:=.node fu .nil .nil
def asc (P:Params):W.BT:=.node Zq .nil .nil
def av8:W.BT:=.node eD (.node Z2 (.node pB (ar7 P) (ar8 P)) (.node pB (ar9 P) .nil)) (.node pB (.node X7 (asa P) (asb P)) (.node Zl (asc P) .nil))
def asd (P:Params):W.BT:=.node km .nil .nil
def ase (P:Params):W.BT:=.node yr .nil .nil
def asf (P:Params):W.BT:=.node eD .nil .nil
def asg (P:Params):W.BT:=.node pB .nil .nil
def ash (P:Params):W.BT:=.node ut .nil .nil
def asi (P:Params):W.BT:=.node rq .nil .nil
def a3b:W.BT:=.node SZ (.node eD (.node pL (asd P) (ase P)) (.node mO (asf P) .nil)) (.node eL (.node BB (asg P) (ash P)) (.node ll (asi P) .nil))
def asj (P:Params):W.BT:=.node Ym .nil .nil
def ask (P:Params):W.BT:=.node Rs .nil .nil
def asl (P:Params):W.BT:=.node Zp .nil .nil
def asm (P:Params):W.BT:=.node xo .nil .nil
def asn (P:Params):W.BT:=.node pB .nil .nil
def aso (P:Params):W.BT:=.node BB .nil .nil
def av9:W.BT:=.node q0 (.node V2 (.node i6 (asj P) (ask P)) (.node pB (asl P) .nil)) (.node y4 (.node pB (asm P) (asn P)) (.node pB (aso P) .nil))
def asp (P:Params):W.BT:=.node wm .nil .nil
def asq (P:Params):W.BT:=.node pB .nil .nil
def asr (P:Params):W.BT:=.node pB .nil .nil
def ass (P:Params):W.BT:=.node KO .nil .nil
def ast:W.BT:=.node (uP P) .nil .nil
def asu (P:Params):W.BT:=.node eP .nil .nil
def a3c:W.BT:=.node eD (.node W1 (.node pB (asp P) (asq P)) (.node BB (asr P) .nil)) (.node pB (.node pB (ass P) (ast P)) (.node BB (asu P) .nil))
def asv (P:Params):W.BT:=.node BB .nil .nil
def asw (P:Params):W.BT:=.node Xs .nil .nil
def asx (P:Params):W.BT:=.node fq .nil .nil
def asy (P:Params):W.BT:=.node Xo .nil .nil
def asz (P:Params):W.BT:=.node lu .nil .nil
def as0 (P:Params):W.BT:=.node pB .nil .nil
def awa:W.BT:=.node ZK (.node eD (.node w6 (asv P) (asw P)) (.node Wk (asx P) .nil)) (.node Y4 (.node xj (asy P) (asz P)) (.node pB (as0 P) .nil))
def a6u:W.BT:=.node (W.boot_o_10 P) (.node pB (.node wZ (a28 P) (a29 P)) (.node pB (a3a P) (av8 P))) (.node rZ (.node BZ (a3b P) (av9 P)) (.node BB (a3c P) (awa P)))
def as1 (P:Params):W.BT:=.node CO .nil .nil
def as2 (P:Params):W.BT:=.node BB .nil .nil
def as3 (P:Params):W.BT:=.node gp .nil .nil
def as4 (P:Params):W.BT:=.node uu .nil .nil
def as5 (P:Params):W.BT:=.node Rn .nil .nil
def as6 (P:Params):W.BT:=.node nt .nil .nil
def as7 (P:Params):W.BT:=.node fD .nil .nil
def a3d:W.BT:=.node RZ (.node bL (.node m5 (as1 P) (as2 P)) (.node Tj (as3 P) (as4 P))) (.node BB (.node U6 (as5 P) (as6 P)) (.node il (as7 P) .nil))
def as8:W.BT:=.node (Vm P) .nil .nil
def as9 (P:Params):W.BT:=.node kP .nil .nil
def ata (P:Params):W.BT:=.node BB .nil .nil
def atb (P:Params):W.BT:=.node vo .nil .nil
def atc (P:Params):W.BT:=.node bu .nil .nil
def atd (P:Params):W.BT:=.node Uq .nil .nil
def awb:W.BT:=.node eD (.node S2 (.node c6 (as8 P) (as9 P)) (.node qO (ata P) .nil)) (.node lL (.node pB (atb P) (atc P)) (.node xO (atd P) .nil))
def ate (P:Params):W.BT:=.node um .nil .nil
def atf (P:Params):W.BT:=.node pB .nil .nil
def atg (P:Params):W.BT:=.node UO .nil .nil
def ath (P:Params):W.BT:=.node BB .nil .nil
def ati (P:Params):W.BT:=.node yt .nil .nil
def atj (P:Params):W.BT:=.node xq .nil .nil
def a3e:W.BT:=.node BW (.node eD (.node pB (ate P) (atf P)) (.node Yj (atg P) .nil)) (.node pB (.node d7 (ath P) (ati P)) (.node wl (atj P) .nil))
def atk (P:Params):W.BT:=.node dn .nil .nil
def atl (P:Params):W.BT:=.node Vs .nil .nil
def atm (P:Params):W.BT:=.node XO .nil .nil
def atn (P:Params):W.BT:=.node pB .nil .nil
def ato (P:Params):W.BT:=.node BB .nil .nil
def atp (P:Params):W.BT:=.node cr .nil .nil
def awc:W.BT:=.node S0 (.node m3 (.node pB (atk P) (atl P)) (.node pB (atm P) .nil)) (.node pB (.node pB (atn P) (ato P)) (.node BB (atp P) .nil))
def atq (P:Params):W.BT:=.node om .nil .nil
def atr (P:Params):W.BT:=.node Qr .nil .nil
def ats (P:Params):W.BT:=.node pp .nil .nil
def att (P:Params):W.BT:=.node pB .nil .nil
def atu (P:Params):W.BT:=.node pB .nil .nil
def atv (P:Params):W.BT:=.node BB .nil .nil
def a3f:W.BT:=.node eD (.node Q1 (.node p5 (atq P) (atr P)) (.node pB (ats P) .nil)) (.node c4 (.node qL (att P) (atu P)) (.node pB (atv P) .nil))
def atw (P:Params):W.BT:=.node pB .nil .nil
def atx (P:Params):W.BT:=.node nP .nil .nil
def aty (P:Params):W.BT:=.node bq .nil .nil
def atz (P:Params):W.BT:=.node Ro .nil .nil
def at4 (P:Params):W.BT:=.node pB .nil .nil
def at5 (P:Params):W.BT:=.node Xq .nil .nil
def awd:W.BT:=.node u0 (.node eD (.node m6 (atw P) (atx P)) (.node yk (aty P) .nil)) (.node S4 (.node V7 (atz P) (at4 P)) (.node pB (at5 P) .nil))
def at6 (P:Params):W.BT:=.node BB .nil .nil
def at7 (P:Params):W.BT:=.node Zr .nil .nil
def at8 (P:Params):W.BT:=.node pB .nil .nil
def at9 (P:Params):W.BT:=.node jo .nil .nil
def aua (P:Params):W.BT:=.node Vt .nil .nil
def aub (P:Params):W.BT:=.node pB .nil .nil
def a3g:W.BT:=.node d0 (.node Z1 (.node W5 (at6 P) (at7 P)) (.node ik (at8 P) .nil)) (.node t4 (.node pB (at9 P) (aua P)) (.node zl (aub P) .nil))
def auc (P:Params):W.BT:=.node vn .nil .nil
def aud (P:Params):W.BT:=.node eD .nil .nil
def aue (P:Params):W.BT:=.node jq .nil .nil
def auf (P:Params):W.BT:=.node BB .nil .nil
def aug (P:Params):W.BT:=.node pu .nil .nil
def auh (P:Params):W.BT:=.node pB .nil .nil
def awe:W.BT:=.node eD (.node S3 (.node BB (auc P) (aud P)) (.node BB (aue P) .nil)) (.node eD (.node eD (auf P) (aug P)) (.node gm (auh P) .nil))
def a6v:W.BT:=.node aT (.node pB (.node yZ (a3d P) (awb P)) (.node HZ (a3e P) (awc P))) (.node BB (.node pB (a3f P) (awd P)) (.node MZ (a3g P) (awe P)))
def bfi:W.BT:=.node (W.boot_o_0 P) (.node (W.boot_o_1 P) (.node (vL P) (Rw P) (Qy P)) (.node (W.boot_o_5 P) (bfg P) (a6s P))) (.node (W.boot_o_2 P) (.node (W.boot_o_4 P) (bfh P) (a6t P)) (.node (W.boot_o_6 P) (a6u P) (a6v P)))
end
def yF (w:World) (os:OsState):W.SharedT:=(bfi w.params,904,(W.boot_heap w.params).life, #[],W.boot_drawn,1369,os)
def _root_.PySem.W.Fast.tw14586858743650299082:World->OsState->W.SharedT:=yF
theorem _root_.PySem.W.Fast.te14586858743650299082:@Eq (World->OsState->W.SharedT) yF _root_.PySem.W.Fast.tw14586858743650299082:=rfl
def bs:!Stmt:=W.behindTheImports PySem.Challenge.pw_frameland_k79_machine_sizes
def env:Env:={scope:=PySem.Challenge.pw_frameland_k79_machine_sizes.main.scope,locals:=mainNs,globals:=mainNs,cells:=[],code:=(.ref 13),frame:=some 14}
def L0 (w:World) (os:OsState):=DL treeTable PySem.Challenge.pw_frameland_k79_machine_sizes w (W.boot_heap w.params).objs.size (cD w) 12 (YD w os) (W.topStub PySem.Challenge.pw_frameland_k79_machine_sizes)
def R0 (w:World) (os:OsState):=some (RL w os,((denote treeTable (Code.body bs env),(Code.body bs env),(0,0,0,0),[W.topFrame (0,0,0,0)]):Thread))
def L1 (w:World) (os:OsState):=W.segRunT treeTable PySem.Challenge.pw_frameland_k79_machine_sizes w (W.boot_heap w.params).objs.size (cD w) 1 1 (RL w os) (W.blockOf bs env (Code.body bs env) (0,0,0,0) [W.topFrame (0,0,0,0)])
def R1 (w:World) (os:OsState):=some (Flow.next,(SL w os,((Code.body bs env),((0,0,0,0):Pos))))
def L2 (w:World) (os:OsState):=W.segRunT treeTable PySem.Challenge.pw_frameland_k79_machine_sizes w (W.boot_heap w.params).objs.size (cD w) 1 3568 (SL w os) (W.piecesOf ((bs).take 38) env (Code.body bs env) (0,0,0,0) [W.topFrame (0,0,0,0)])
def R2 (w:World) (os:OsState):=some (Flow.next,(xF w os,((Code.body bs env),((77,0,147,87):Pos))))
def L3 (w:World) (os:OsState):=W.segRunT treeTable PySem.Challenge.pw_frameland_k79_machine_sizes w (W.boot_heap w.params).objs.size (cD w) 1 3316 (xF w os) (W.piecesOf (((bs).drop 38).take 21) env (Code.body bs env) (77,0,147,87) [W.topFrame (0,0,0,0)])
def R3 (w:World) (os:OsState):=some (Flow.next,(yF w os,((Code.body bs env),((435,0,454,72):Pos))))
def lhs (w:World) (os:OsState):=(xE treeTable PySem.Challenge.pw_frameland_k79_machine_sizes w (W.boot_heap w.params).objs.size (cD w) 11663 (yF w os) (W.restOf (((bs).drop 38).drop 21) env (Code.body bs env) (435,0,454,72) [W.topFrame (0,0,0,0)])).map (ZD PySem.Challenge.pw_frameland_k79_machine_sizes vw lo (λs=>W.xlAt vw [] s&&W.recOk (W.RowW.records (PySem.Challenge.rw_frameland_k79_machine_sizes).row.toRowW) s) yG (W.boot_heap w.params))
def rhs (w:World):=some ((true,Kc w.params),W.openGood vw lo)
theorem twins0:(λ(_ _:World->OsState->_)=>true) L0 R0=true:=by k_qdec
theorem KW:∀(w:World) (j:OsState),PySem.W.Fast.tw6480634986709459259 w j=PySem.W.Fast.tw3368112316094526086 w j:=by intro w j;kernel_rfl
theorem h0 (w:World) (j:OsState):DL treeTable PySem.Challenge.pw_frameland_k79_machine_sizes w (W.boot_heap w.params).objs.size (cD w) 12 (YD w j) (W.topStub PySem.Challenge.pw_frameland_k79_machine_sizes)>(RL w j,((denote treeTable (Code.body bs env),(Code.body bs env),(0,0,0,0),[W.topFrame (0,0,0,0)]):Thread)):=(LA (LA PySem.W.Fast.te6480634986709459259 w) j).trans ((KW w j).trans (LA (LA PySem.W.Fast.te3368112316094526086 w) j).symm)
theorem twins1:(λ(_ _:World->OsState->_)=>true) L1 R1=true:=by k_qdec
theorem LW:∀(w:World) (j:OsState),PySem.W.Fast.tw6549898218072122711 w j=PySem.W.Fast.tw8138977323033037049 w j:=by intro w j;kernel_rfl
theorem h1 (w:World) (j:OsState):W.segRunT treeTable PySem.Challenge.pw_frameland_k79_machine_sizes w (W.boot_heap w.params).objs.size (cD w) 1 1 (RL w j) (W.blockOf bs env (Code.body bs env) (0,0,0,0) [W.topFrame (0,0,0,0)])>(Flow.next,(SL w j,((Code.body bs env),((0,0,0,0):Pos)))):=(LA (LA PySem.W.Fast.te6549898218072122711 w) j).trans ((LW w j).trans (LA (LA PySem.W.Fast.te8138977323033037049 w) j).symm)
theorem twins2:(λ(_ _:World->OsState->_)=>true) L2 R2=true:=by k_qdec
theorem MW:∀(w:World) (j:OsState),PySem.W.Fast.tw5255168214638199525 w j=PySem.W.Fast.tw18023110596874490952 w j:=by intro w j;kernel_rfl
theorem h2 (w:World) (j:OsState):W.segRunT treeTable PySem.Challenge.pw_frameland_k79_machine_sizes w (W.boot_heap w.params).objs.size (cD w) 1 3568 (SL w j) (W.piecesOf ((bs).take 38) env (Code.body bs env) (0,0,0,0) [W.topFrame (0,0,0,0)])>(Flow.next,(xF w j,((Code.body bs env),((77,0,147,87):Pos)))):=(LA (LA PySem.W.Fast.te5255168214638199525 w) j).trans ((MW w j).trans (LA (LA PySem.W.Fast.te18023110596874490952 w) j).symm)
theorem twins3:(λ(_ _:World->OsState->_)=>true) L3 R3=true:=by k_qdec
theorem NW:∀(w:World) (j:OsState),PySem.W.Fast.tw5469444369359970376 w j=PySem.W.Fast.tw8946040159827707463 w j:=by intro w j;kernel_rfl
theorem h3 (w:World) (j:OsState):W.segRunT treeTable PySem.Challenge.pw_frameland_k79_machine_sizes w (W.boot_heap w.params).objs.size (cD w) 1 3316 (xF w j) (W.piecesOf (((bs).drop 38).take 21) env (Code.body bs env) (77,0,147,87) [W.topFrame (0,0,0,0)])>(Flow.next,(yF w j,((Code.body bs env),((435,0,454,72):Pos)))):=(LA (LA PySem.W.Fast.te5469444369359970376 w) j).trans ((NW w j).trans (LA (LA PySem.W.Fast.te8946040159827707463 w) j).symm)
theorem twins:(λ(_:World->OsState->_) (_:World->_)=>true) lhs rhs=true:=by k_qdec
theorem bhr:∀(w:World) (j:OsState),PySem.W.Fast.tw7128866508377749982 w j=PySem.W.Fast.tw12590348191598281069 w:=by intro w j;kernel_rfl
theorem c8 (w:World) (j:OsState):lhs w j=rhs w:=(LA (LA PySem.W.Fast.te7128866508377749982 w) j).trans ((bhr w j).trans (LA PySem.W.Fast.te12590348191598281069 w).symm)
theorem left:W.LeftO PySem.Challenge.pw_frameland_k79_machine_sizes vw lo (λs=>W.xlAt vw [] s&&W.recOk (W.RowW.records (PySem.Challenge.rw_frameland_k79_machine_sizes).row.toRowW) s) (λs=>yG.map s.heap.get?) (λw=>(Kf w.params).map λq=>some q.2) (12+(1+(3568+(3316+(11663))))):=by
 show Rb (Nl:=11663) (S:=yF) (t:=(W.restOf (((bs).drop 38).drop 21) env (Code.body bs env) (435,0,454,72) [W.topFrame (0,0,0,0)])) (by kernel_rfl) (by kernel_rfl) (by intro s;kernel_rfl) (λw j r k=>W.go_top (n:=12) (N:=1+(3568+(3316+(11663)))) (eY (h0 w j)) (W.piece_block (n:=1) (N:=3568+(3316+(11663))) (W.segRun_of (h1 w j)) (fY (n:=3568) (N:=3316+(11663)) (h2 w j) (fY (n:=3316) (N:=11663) (h3 w j) k)))) (λw j=>?_) λw j=>?_
 .rw[<-MR];show Yb (c8 w j)
 .show Zb (c8 w j)
end
end Pf
namespace L2
open PySem PySem.Spec PyProof.Rows
abbrev Key:=Sum Int Str
def WD:Key->Value->Bool
 |.inl k,v=>Value.isInt k v
 |.inr x,v=>Value.isStrOf x v
def bT (w:World):Key->Int
 |.inl k=>hashInt k
 |.inr x=>hashStr w x
theorem zG:∀{k:Key} {v:Value},WD k v=true->(∃i t,k=inl i/\v=Value.int i t)\/(∃x t,k=inr x/\v=Value.str x t)
 |.inl i,v,h=>by
  let(t,e):=Value.isInt_shape (k:=i) (v:=v) h;show .inl (i,t,rfl,e)
 |.inr x,v,h=>by
  let(t,e):=Value.isStrOf_shape (x:=x) (v:=v) h;show .inr (x,t,rfl,e)
theorem d8 (i:Int) (t:Tok):WD (.inl i) (.int i t)=true:=by simp[WD,Value.isInt]
theorem e8 (x:Str) (t:Tok):WD (.inr x) (.str x t)=true:=by simp[WD,Value.isStrOf]
theorem MI (a b:Int):decide ((inl a:Key)=inl b)=(a == b):=by
 by_cases e:a=b
 .subst e;simp
 .let h:¬(inl a:Key)=inl b:=λq=>e (Sum.inl.inj q);rw[GA h];show (beq_eq_false_iff_ne.mpr e).symm
theorem NI (a b:Str):decide ((inr a:Key)=inr b)=decide (a=b):=by
 by_cases e:a=b
 .subst e;simp
 .let h:¬(inr a:Key)=inr b:=λq=>e (Sum.inr.inj q);rw[GA h,GA e]
theorem OI (a:Int) (b:Str):decide ((inl a:Key)=inr b)=false:=GA nofun
theorem QI (a:Str) (b:Int):decide ((inr a:Key)=inl b)=false:=GA nofun
def MB (prog:Program) (w:World):PySem.KeyKind prog w Key where
 is:=WD
 hash:=bT w
 inj:=λv a b ha hb=>by
  let(i,t,rfl,rfl)||(x,t,rfl,rfl):=zG ha
  .let(j,u,rfl,e)||(y,u,rfl,e):=zG hb
   .injection e with e1 _;rw[e1]
   .show nomatch e
  .let(j,u,rfl,e)||(y,u,rfl,e):=zG hb
   .show nomatch e
   .injection e with e1 _;rw[e1]
 byValue:=λk v h=>by
  let(i,t,rfl,rfl)||(x,t,rfl,rfl):=zG h<;>rfl
 pyHash:=λhv h=>by
  let(i,t,rfl,rfl)||(x,t,rfl,rfl):=zG hv
  .show wpAny_pyHash_int h
  .show wpAny_pyHash_str h
 eqBool:=λhu hv h=>by
  let(i,t,rfl,rfl)||(x,t,rfl,rfl):=zG hu
  .let(j,u,rfl,rfl)||(y,u,rfl,rfl):=zG hv
   .rw[MI] at h;show wpAny_eqBool_int h
   .rw[OI] at h;show SeqAt.EqAt.int_str i t y u _ _ _ _ h
  .let(j,u,rfl,rfl)||(y,u,rfl,rfl):=zG hv
   .rw[QI] at h;show SeqAt.EqAt.str_int x t j u _ _ _ _ h
   .rw[NI] at h;show wpAny_eqBool_str h
 «strs» :=λk x t v h=>by
  let(i,u,rfl,e)||(y,u,rfl,e):=zG h
  .show nomatch e
  .injection e with e1 _;subst e1;cases v<;>rfl
theorem f8 (prog:Program) (w:World) (i:Int) (t:Tok):(MB prog w).is (.inl i) (.int i t)=true:=d8 i t
theorem i8 (prog:Program) (w:World) (x:Str) (t:Tok):(MB prog w).is (.inr x) (.str x t)=true:=e8 x t
inductive V where
 |non|bl (b:Bool)|int (i:Int)|str (x:Str)|byt (b:Array UInt8)|flt (b:UInt64)|ref (a:Addr)|ty (n:String)
 deriving DecidableEq
def CB:V->Value->Prop
 |.non,u=>u=Value.none
 |.bl b,u=>u=Value.bool b
 |.int i,u=>∃t,u=Value.int i t
 |.str x,u=>∃t,u=Value.str x t
 |.byt b,u=>∃t,u=Value.bytes b t
 |.flt b,u=>∃t,u=Value.float b t
 |.ref a,u=>u=Value.ref a
 |.ty n,u=>u=Value.type n
abbrev yB:!V->!Value->Prop:=Paired CB
theorem yB.length {xs:!V} {us:!Value} (r:yB xs us):xs.length=us.length:=Paired.length r
theorem yB.get:∀{xs:!V} {us:!Value} {i:Nat} {x:V},yB xs us->xs[i]?>x->∃u,us[i]?>u/\CB x u
 |_,_,_,_,.nil,e=>by simp at e
 |_,_,0,_,.cons r _,e=>by simp at e;subst e;show(_,rfl,r)
 |_,_,i+1,x,.cons _ t,e=>by
  let(u,h1,h2):=yB.get (i:=i) (x:=x) t (by simpa using e);show(u,by simpa using h1,h2)
theorem yB.set {x:V} {u:Value} (r:CB x u):∀{xs:!V} {us:!Value} (i:Nat),yB xs us->yB (xs.set i x) (us.set i u)
 |_,_,_,.nil=>.nil
 |_,_,0,.cons _ t=>.cons r t
 |_,_,i+1,.cons q t=>.cons q (yB.set r i t)
theorem yB.append:∀{xs ys:!V} {us ws:!Value},yB xs us->yB ys ws->yB (xs++ys) (us++ws)
 |_,_,_,_,.nil,s=>s
 |_,_,_,_,.cons r t,s=>.cons r (yB.append t s)
theorem yB.take:∀{xs:!V} {us:!Value} (n:Nat),yB xs us->yB (xs.take n) (us.take n)
 |_,_,0,_=>.nil
 |_,_,_+1,.nil=>.nil
 |_,_,n+1,.cons r t=>.cons r (yB.take n t)
theorem yB.drop:∀{xs:!V} {us:!Value} (n:Nat),yB xs us->yB (xs.drop n) (us.drop n)
 |_,_,0,r=>r
 |_,_,_+1,.nil=>.nil
 |_,_,n+1,.cons _ t=>yB.drop n t
def FC:Option V->Option Value->Prop
 |some v,some u=>CB v u
 |none,none=>True
 |_,_=>False
def KV {κ:Type}:!(κ×V)->!(κ×Value)->Prop:=Paired λ(p:κ×V) (q:κ×Value)=>p.1=q.1/\CB p.2 q.2
def kV:Key->V
 |.inl i=>.int i
 |.inr x=>.str x
inductive HO where
 |lst (xs:!V)
 |tup (xs:!V)
 |dK (kvs:!(Key×V))|dT (kvs:!(!Key×V))
 |set (S:Int->Bool) (n:Nat)
 |ins (C dx:Addr) (fs:!(Str×V))
 |own (x:Addr)
 |xd (fs:!(Str×V))
 |met (f x:Addr)
 |rng (lo hi:Int)
 |frz (o:Obj) (u:HO)
 |tbl (ps:Array Value)
 |ext (φ:Heap->Prop)
abbrev Hp:=Addr->Option HO
def uB (H:Hp) (a:Addr) (o:HO):Hp:=λb=>if b=a then some o else H b
theorem KB {H:Hp} {a:Addr} {o:HO}:uB H a o a>o:=by unfold uB;rw[vA rfl]
theorem IB {H:Hp} {a b:Addr} {o:HO} (h:b≠a):uB H a o b=H b:=by unfold uB;rw[kA h]
theorem j8 {H:Hp} {a:Addr} {o u:HO}:uB (uB H a o) a u=uB H a u:=by
 funext b;unfold uB;split<;>rfl
theorem AG {H:Hp} {a b:Addr} {o u:HO} (h:H a>o) (h':H b>u) (d:o≠u):a≠b:=by
 intro e;subst e;rw[h] at h';show d (lA h')
theorem NC {H:Hp} {a b:Addr} {o:HO} (h:H a>o) (h':H b=none):a≠b:=by
 intro e;subst e;rw[h] at h';cases h'
section
variable (P:Program) (w:World)
def LB (H:Hp) (h:Heap) (a:Addr):HO->Prop
 |.lst xs=>xs.length<=sizeLine/\∃(its:!Value) (n:Nat),yB xs its/\h.get? a>{cls:=.type "list",data:=.seq its.toArray n}
 |.tup xs=>xs.length<=sizeLine/\∃its:!Value,yB xs its/\IsTup h a its.toArray
 |.dK kvs=>kvs.length<=sizeLine/\(a == sysModules)=false/\∃vs,KV kvs vs/\h.DictOf (MB P w) a vs
 |.dT kvs=>kvs.length<=sizeLine/\(a == sysModules)=false/\∃xs:!(!Key×Addr×Value),
  Paired (λ(p:!Key×V) (q:!Key×Addr×Value)=>p.1=q.1/\H q.2.1>(.tup (p.1.map kV))/\CB p.2 q.2.2) kvs xs/\
  ∃o es ep,h.get? a>o/\o.ExactDict/\o.data=.dict es ep/\es.toList=xs.map (entryOfKey (tupleKind (MB P w)))/\(xs.map (·.1)).Nodup
 |.set S n=>h.SetOf (intKind P w) a S n
 |.ins C dx fs=>H dx>(.own a)/\fs.length<=1000/\dx≠a/\h.get? a>(PySem.W.instObj C dx)/\
  ∃mA,h.Ns1 dx mA/\(∀f,FC (fs.lookup f) (mA f))/\PySem.Within mA (fs.map (·.1))
 |.own _=>∃o,h.get? a>o
 |.xd fs=>∃mA,h.Ns1 a mA/\∀f,FC (fs.lookup f) (mA f)
 |.rng lo hi=>∃t u v,h.get? a>{cls:=.type "range",data:=.fields #[.int lo t,.int hi u,.int 1 v]}
 |.frz o u=>h.get? a>o/\LB H h a u
 |.tbl ps=>h.get? a>{cls:=.none,data:=.fields ps}
 |.met f x=>h.get? a>(PySem.W.methodObj (.ref f) (.ref x))
 |.ext φ=>φ h/\(∃o,h.get? a>o)/\∀h1 h2:Heap,φ h1->(∀o,h1.get? a>o->h2.get? a>o)->φ h2
def GC (H:Hp) (h:Heap):Prop:=∀a o,H a>o->LB P w H h a o
end
section
variable {P:Program} {w:World} {H H':Hp} {h h':Heap} {a:Addr} {o:HO}
theorem LB.lt (x:LB P w H h a o):a < h.objs.size:=by
 cases o with
 |lst xs=>let(_,_,_,_,e):=x;show dA e
 |tup xs=>let(_,_,_,j):=x;show j.lt
 |dK kvs=>let(_,_,_,_,o,_,_,e,_):=x;show dA e
 |dT kvs=>let(_,_,_,_,o,_,_,e,_):=x;show dA e
 |set S n=>let(o,_,_,_,e,_):=x;show dA e
 |ins C B fs=>let(_,_,_,e,_):=x;show dA e
 |own q=>let(_,e):=x;show dA e
 |xd fs=>let(_,(_,_,_,e,_),_):=x;show dA e
 |rng lo D=>let(_,_,_,e):=x;show dA e
 |frz F u=>let(e,_):=x;show dA e
 |tbl J=>show dA (show h.get? a>_ from x)
 |met f q=>show dA (show h.get? a>_ from x)
 |ext L=>let(_,(_,e),_):=x;show dA e
theorem Paired.mapP {α β:Type} {F G:α->β->Prop}:∀{l₁:!α} {l₂:!β},Paired F l₁ l₂->(∀a b,F a b->G a b)->Paired G l₁ l₂
 |_,_,.nil,_=>.nil
 |_,_,.cons r t,f=>.cons (f _ _ r) (Paired.mapP t f)
theorem LB.stay (x:LB P w H h a o) (k:∀B u,(B=a\/H B>(.own a))->h.get? B>u->h'.get? B>u)
  (Y:∀B,H B>(.own a)->H' B>(.own a)) (Z:∀B xs,H B>(.tup xs)->H' B>(.tup xs)):LB P w H' h' a o:=by
 induction o with
 |lst xs=>let(j,L,n,r,e):=x;show(j,L,n,r,k _ _ (.inl rfl) e)
 |tup xs=>let(j,L,r,D,e,c):=x;show(j,L,r,D,k _ _ (.inl rfl) e,c)
 |dK kvs=>let(j,J,vs,r,D,F,ep,e,c):=x;show(j,J,vs,r,D,F,ep,k _ _ (.inl rfl) e,c)
 |dT kvs=>
  let(j,J,xs,r,D,F,ep,e,c):=x;show(j,J,xs,Paired.mapP r λU q j=>(j.1,Z _ _ j.2.1,j.2.2),D,F,ep,k _ _ (.inl rfl) e,c)
 |set S n=>let(D,F,ep,t,e,c):=x;show(D,F,ep,t,k _ _ (.inl rfl) e,c)
 |ins C a1 fs=>
  let(d,j,ne,e,N,(O,F,ep,W,c),r):=x;show(Y _ d,j,ne,k _ _ (.inl rfl) e,N,(O,F,ep,k _ _ (.inr d) W,c),r)
 |own J=>let(D,e):=x;show⟨D,k _ _ (.inl rfl) e⟩
 |xd fs=>let(N,(O,F,ep,e,c),r):=x;show(N,(O,F,ep,k _ _ (.inl rfl) e,c),r)
 |rng lo a2=>let(t,u,v,e):=x;show(t,u,v,k _ _ (.inl rfl) e)
 |frz D u a0=>let(e,q):=x;show⟨k _ _ (.inl rfl) e,a0 q⟩
 |tbl V=>
  let e:h.get? a>{cls:=.none,data:=.fields V}:=x;change h'.get? a>{cls:=.none,data:=.fields V};show k a _ (.inl rfl) e
 |met f J=>
  let e:h.get? a>(PySem.W.methodObj (.ref f) (.ref J)):=x;change h'.get? a>(PySem.W.methodObj (.ref f) (.ref J));show k a _ (.inl rfl) e
 |ext a3=>let(U,(o,e),st):=x;show(st _ _ U λo q=>k _ _ (.inl rfl) q,⟨o,k _ _ (.inl rfl) e⟩,st)
theorem GC.lt (x:GC P w H h) (e:H a>o):a < h.objs.size:=(x a o e).lt
theorem GC.fresh (x:GC P w H h) (e:h.objs.size<=a):H a=none:=by
 cases q:H a with
 |none=>rfl
 |some u=>show absurd (fA (x.lt q) e) (eB _)
theorem GC.kept (x:GC P w H h) (k:∀b u,h.get? b>u->h'.get? b>u):GC P w H h':=λa o e=>
 (x a o e).stay (λb u ο q=>k b u q) (λο q=>q) λο ο q=>q
theorem GC.laid (x:GC P w H h) (k:∀j u,h.get? j>u->h'.get? j>u) (F:h.objs.size<=a) (J:LB P w (uB H a o) h' a o):GC P w (uB H a o) h':=λj u e=>by
 let D:=x.fresh F;by_cases B:j=a
 .subst B;rw[KB] at e;cases e;show J
 .rw[IB B] at e;show (x j u e).stay (λc v ο q=>k c v q) (λc q=>by rw[IB (NC q D)];show q) λc xs q=>by rw[IB (NC q D)];show q
end
def Rd (H:Hp) (a:Addr) (u:HO):Prop:=H a>u\/∃o,H a>(.frz o u)
theorem Rd.of {H:Hp} {a:Addr} {u:HO} (h:H a>u):Rd H a u:=.inl h
theorem Rd.ok {P:Program} {w:World} {H:Hp} {h:Heap} {a:Addr} {u:HO} (r:Rd H a u) (x:GC P w H h):LB P w H h a u:=by
 let r||(o,r):=r
 .show x a u r
 .let(_,q):=x a _ r;show q
def TL:Option HO->Prop
 |some (.lst _)=>True
 |some (.dK _)=>True
 |some (.dT _)=>True
 |some (.set _ _)=>True
 |some (.ins _ _ _)=>True
 |some (.ext _)=>True
 |_=>False
section
variable {P:Program} {w:World} {H:Hp} {h h':Heap} {x e:Addr} {o':HO}
theorem GC.write (ok:GC P w H h) (L:TL (H x)) (N:e=x\/H e>(.own x)) (k:∀B u,B≠e->h.get? B>u->h'.get? B>u) (W:∃u,h'.get? e>u)
  (Z:LB P w (uB H x o') h' x o'):GC P w (uB H x o') h':=λB u q=>by
 let O:∀c V,H c>(.own V)->c≠x:=λc V r j=>by subst j;rw[r] at L;show L
 let a0:∀c xs,H c>(.tup xs)->c≠x:=λc xs r j=>by subst j;rw[r] at L;show L
 by_cases D:B=x
 .subst D;rw[KB] at q;cases q;show Z
 .rw[IB D] at q;by_cases F:B=e
  .let U:H B>(.own x):=by
    let j||j:=N
    .show absurd (F.trans j) D
    .rw[F];show j
   rw[q] at U;cases U;let(v,Y):=W;show⟨v,by rw[F];show Y⟩
  .show (ok B u q).stay (λc v J r=>k c v ?_ r) (λc r=>by rw[IB (O c B r)];show r) λc xs r=>by rw[IB (a0 c xs r)];show r
   let rfl||J:=J
   .show F
   .rintro rfl;let j||j:=N
    .show O c B J j
    .rw[J] at j;cases j;show D rfl
end
structure Un (fs ex:!Addr) (H H':Hp) (h h':Heap):Prop where
 keep:∀b o,h.get? b>o->H b=none->b∉fs->b∉ex->h'.get? b>o
 slot:∀b o,h.get? b>o->H b=none->b∈fs->b∉ex->∃sl,h'.get? b>{o with slots:=sl}
 free:∀b o,h.get? b>o->H b=none->b∉ex->H' b=none
 there:∀b o,h.get? b>o->b∉ex->∃o',h'.get? b>o'
 tups:∀b xs,H b>(.tup xs)->H' b>(.tup xs)
 frzs:∀b o u,H b>(.frz o u)->H' b>(.frz o u)
 tbls:∀b ps,H b>(.tbl ps)->∃more,H' b>(.tbl (ps++more))
section
variable {fs fs' ex ex':!Addr} {H H1 H2:Hp} {h h1 h2 h':Heap} {a x e:Addr} {o:HO}
theorem Un.any (u:Un fs ex H H1 h h1) {j:Addr} {B:Obj} (q:h.get? j>B) (n:H j=none) (F:j∉ex):∃sl,h1.get? j>{B with slots:=sl}:=by
 by_cases D:j∈fs
 .show u.slot j B q n D F
 .show⟨B.slots,u.keep j B q n D F⟩
theorem Un.trans (a:Un fs ex H H1 h h1) (D:Un fs ex H1 H2 h1 h2):Un fs ex H H2 h h2 where
 keep:=λc B q n J j=>D.keep c B (a.keep c B q n J j) (a.free c B q n j) J j
 slot:=λc B q n J j=>by
  let(sl,F):=a.slot c B q n J j;let(W,L):=D.slot c _ F (a.free c B q n j) J j;show⟨W,L⟩
 free:=λc B q n j=>by
  let(N,F):=a.there c B q j;show D.free c N F (a.free c B q n j) j
 there:=λc B q j=>by
  let(N,F):=a.there c B q j;show D.there c N F j
 tups:=λc xs q=>D.tups c xs (a.tups c xs q)
 frzs:=λc B xs q=>D.frzs c B xs (a.frzs c B xs q)
 tbls:=λc V q=>by
  let(O,F):=a.tbls c V q;let(U,L):=D.tbls c _ F;show⟨O++U,by rw[L,Array.append_assoc]⟩
theorem Un.kept (k:∀j u,h.get? j>u->h'.get? j>u):Un fs ex H H h h':=
 (λj B q ο ο ο=>k j B q,λj B q ο ο ο=>⟨B.slots,k j B q⟩,λο ο ο n ο=>n,λj B q ο=>⟨B,k j B q⟩,λο ο q=>q,λο ο ο q=>q,λο D q=>⟨#[],by rw[q];simp⟩)
theorem Un.refl:Un fs ex H H h h:=Un.kept λο ο q=>q
theorem Un.laid (k:∀j u,h.get? j>u->h'.get? j>u) (D:h.objs.size<=a) (B:H a=none):Un fs ex H (uB H a o) h h' where
 keep:=λj u q ο ο ο=>k j u q
 slot:=λj u q ο ο ο=>⟨u.slots,k j u q⟩
 free:=λj u q n ο=>by rw[IB (uA (fA (dA q) D))];show n
 there:=λj u q ο=>⟨u,k j u q⟩
 tups:=λj xs q=>by rw[IB (NC q B)];show q
 frzs:=λj u xs q=>by rw[IB (NC q B)];show q
 tbls:=λj F q=>⟨#[],by rw[IB (NC q B),q];simp⟩
theorem Un.write (D:TL (H x)) (O:e=x\/H e>(.own x)) (k:∀j u,j≠e->h.get? j>u->h'.get? j>u) (U:∃u,h'.get? e>u):Un fs ex H (uB H x o) h h':=by
 let N:∀j,H j=none->j≠x:=λj n B=>by subst B;rw[n] at D;show D
 let J:∀j,H j=none->j≠e:=λj n B=>by
  subst B;let r||r:=O
  .show N j n r
  .rw[n] at r;cases r
 let F:∀j u,H j>u->¬TL (some u)->j≠x:=λj u q nm B=>by subst B;rw[q] at D;show nm D
 show(λj u q n ο ο=>k j u (J j n) q,λj u q n ο ο=>⟨u.slots,k j u (J j n) q⟩,λj u q n ο=>by rw[IB (N j n)];show n,λj u q ο=>?_,
  λj xs q=>by rw[IB (F j _ q λB=>B)];show q,λj u xs q=>by rw[IB (F j _ q λB=>B)];show q,λj V q=>⟨#[],by rw[IB (F j _ q λB=>B),q];simp⟩)
 by_cases L:j=e
 .subst L;show U
 .show⟨u,k j u L q⟩
end
def trk (h:Heap) (H:Hp):!Addr:=(List.range h.objs.size).filter λa=>(H a).isSome
def cE (h:Heap) (H:Hp):Heap:=PySem.W.hideAll h (trk h H)
theorem k8 (h:Heap) (H:Hp):(cE h H).objs.size=h.objs.size:=PySem.W.hideAll_size _ _
theorem l8 {h:Heap} {H:Hp} {j:Addr} {o:Obj} (e:h.get? j>o) (n:H j=none):(cE h H).get? j>o:=
 PySem.W.hideAll_get _ e λB=>by
  let q:(H j).isSome=true:=(List.mem_filter.mp B).2;rw[n] at q;simp at q
theorem m8 {h:Heap} {H:Hp} {j:Addr} {o:Obj} (e:(cE h H).get? j>o):h.get? j>o/\H j=none:=by
 let B:h.get? j>o:=PySem.W.of_hideAll (trk h H) e;show⟨B,?_⟩;cases q:H j with
 |none=>rfl
 |some x=>
  let D:j∈trk h H:=List.mem_filter.mpr ⟨List.mem_range.mpr (dA B),by simp[q]⟩;let F:(cE h H).get? j=none:=PySem.W.hideAll_none (trk h H) D;rw[F] at e;cases e
def BG (g h:Heap) (L:Addr):!(Addr×Obj):=(List.range h.objs.size).filterMap λa=>if a=L\/(g.get? a).isSome=true then none else (h.get? a).map λo=>(a,o)
def rest (g h:Heap) (L d:Addr):!(Addr×Obj):=(BG g h L).filter λp=>decide (p.1≠d)
structure Mod (K:PySem.W.Frag) (mg:Str->Option Value) (base:Heap):Prop where
 kin:K.In base
 glob:base.Ns mainGlobals mg
 blt:∃mb,base.Ns builtinsNs mb/\∀x:Str,x≠"__name__"->mb x=bootBuiltins x
 nolimit:base.NoLimit
set_option genInjectivity false in
structure Cx where
 prog:Program
 w:World
 K:PySem.W.Frag
 mg:Str->Option Value
 base:Heap
 A:Around
 N:!Str
 s₀:Shared
 H₀:Hp
 env:Env
 outer:!Env
 stack:!Env
 ex:!Addr
 fn:Str->Bool
 calm:Bool
 pn:!(Addr×Obj)
 xe:Value->Shared->Prop
def mC (l:!Env):!Addr:=l.filterMap (·.frame)
abbrev Cx.fs (X:Cx):!Addr:=mC X.outer
def cT (sc:Scope) (x:Str):Prop:=sc.names.lookup x>.local\/sc.names.lookup x>.cell\/sc.names.lookup x>.free
def NR (sc:Scope) (x:Str):Prop:=sc.names.lookup x>.local\/sc.names.lookup x>.cell
def eT (env:Env) (h:Heap) (m:Str->Option Value) (x:Str) (u:Value):Prop:=
 (env.kindOf x>.local/\m x>u)\/((env.kindOf x>.cell\/env.kindOf x>.free)/\∃c,env.cells.lookup x>c/\h.IsCell c (some u))
structure Cx.Ok (X:Cx):Prop where
 mod:Mod X.K X.mg X.base
 kind:X.env.scope.kind=.function
 glob:X.env.globals=mainGlobals
 blt:X.env.builtins=builtinsNs
 above:X.s₀.heap.objs.size<=X.env.locals
 inj:∀x y c,X.env.cells.lookup x>c->X.env.cells.lookup y>c->x=y
 has:∀x,(X.env.kindOf x>.cell\/X.env.kindOf x>.free)->∃c,X.env.cells.lookup x>c
 cab:∀x c,X.fn x=true->X.env.cells.lookup x>c->X.s₀.heap.objs.size<=c
 hd:X.calm=true->X.A.handled=none
 frames:X.A.frames>X.stack
 stk:X.stack=X.outer\/(X.stack=X.env::X.outer/\X.env.frame>X.env.locals)
 exf:∀b∈X.ex,b≠X.env.locals/\∀x c,X.env.cells.lookup x>c->c≠b
 bs:∀b o,X.base.get? b>o->X.s₀.heap.get? b>o/\X.H₀ b=none
 bsz:X.base.objs.size<=X.s₀.heap.objs.size
 noex:∀b o,X.base.get? b>o->b∉X.ex
 exfs:∀b∈X.ex,b∉X.fs
 funs:X.s₀.heap.FunFrames X.base X.outer
 frf:∀b∈X.fs,X.H₀ b=none
structure rB (X:Cx) (pins:!(Addr×Obj)) (σ:!(Option V)) (H:Hp) (s:Shared):Prop where
 ok:X.Ok
 os:s.os=X.s₀.os
 bare:AllBare s.gens
 base:Un X.fs X.ex X.H₀ H X.s₀.heap s.heap
 loc:∃m,s.heap.Ns X.env.locals m/\∀(i:Nat) (x:Str) (v:V),X.N[i]?>x->σ[i]?>(some v)->cT X.env.scope x->∃u,CB v u/\eT X.env s.heap m x u
 cell:∀x c,X.env.cells.lookup x>c->∃v,s.heap.IsCell c v
 free:H X.env.locals=none
 freeC:∀x c,X.env.cells.lookup x>c->H c=none
 pin:∀p∈X.pn++pins,s.heap.get? p.1>p.2/\H p.1=none/\p.1≠X.env.locals/\p.1∉X.fs/\∀v,p.2.data≠.cell v
 hok:GC X.prog X.w H s.heap
 len:σ.length=X.N.length
section
variable {X:Cx} {pins:!(Addr×Obj)} {σ:!(Option V)} {H H':Hp} {s:Shared} {h':Heap}
theorem Cx.Ok.nofr (ok:X.Ok) {j:Addr} {o:Obj} (e:X.base.get? j>o):j∉X.fs:=λq=>by
 have:=(ok.funs.mem q).1;rw[e] at this;cases this
theorem rB.bs (I:rB X pins σ H s):∀b o,X.base.get? b>o->s.heap.get? b>o/\H b=none:=λb o e=>
 ⟨I.base.keep b o (I.ok.bs b o e).1 (I.ok.bs b o e).2 (I.ok.nofr e) (I.ok.noex b o e),I.base.free b o (I.ok.bs b o e).1 (I.ok.bs b o e).2 (I.ok.noex b o e)⟩
theorem rB.bk (I:rB X pins σ H s):∀b o,X.base.get? b>o->s.heap.get? b>o:=λb o e=>(I.bs b o e).1
theorem rB.mod (I:rB X pins σ H s):Mod X.K X.mg X.base:=I.ok.mod
theorem rB.kIn (I:rB X pins σ H s):X.K.In s.heap:=I.ok.mod.kin.keeps I.bk
theorem rB.lt (I:rB X pins σ H s):X.env.locals < s.heap.objs.size:=let ⟨_,hn,_⟩:=I.loc;hn.lt
theorem rB.sz (I:rB X pins σ H s):X.s₀.heap.objs.size<=s.heap.objs.size:=cB I.ok.above (Nat.le_of_lt I.lt)
theorem rB.nofs (j:rB X pins σ H s) {a:Addr} (h:s.heap.objs.size<=a):a∉X.fs:=λq=>by
 let(_,o,B,_):=j.ok.funs.mem q;show absurd (fA (dA B) (cB j.sz h)) (eB _)
theorem rB.cne (j:rB X pins σ H s):∀x c,X.env.cells.lookup x>c->c≠X.env.locals:=λx c e J=>by
 let(v,o,B,q):=j.cell x c e;let(m,(N,L,ep,F,D,_),_):=j.loc;rw[J,F] at B;cases B;rw[D] at q;cases q
theorem rB.funs (q:rB X pins σ H s):s.heap.FunFrames X.base X.outer:=by
 let all:∀(l:!Env),(∀B∈mC l,B∈X.fs)->X.s₀.heap.FunFrames X.base l->s.heap.FunFrames X.base l:=by
  intro l
  induction l with
  |nil=>intro _ _;trivial
  |cons env r Z=>
   intro L U;let(O,(j,o,J,V,W,N),Y):=U;let D:j∈X.fs:=L j (by unfold mC;rw[List.filterMap_cons,J];show zA);let(sl,e):=q.base.slot j o W (q.ok.frf j D) D λa0=>q.ok.exfs j a0 D;show(O,(j,_,J,V,e,N),Z (λB F=>L B (by unfold mC;rw[List.filterMap_cons,J];show wA _ F)) Y)
 show all X.outer (λο F=>F) q.ok.funs
theorem rB.stack (j:rB X pins σ H s):s.heap.FunFrames X.base X.stack:=by
 let e||(e,q):=j.ok.stk
 .rw[e];show j.funs
 .rw[e];let(m,B,_):=j.loc;show .cons (by rw[j.ok.kind];decide) q B ?_ j.funs;show Heap.get?_none_of_le (cB j.ok.bsz j.ok.above)
theorem rB.stkSub (B:rB X pins σ H s):∀q∈mC X.stack,q∈X.env.locals::X.fs:=λq j=>by
 let e||(e,D):=B.ok.stk
 .rw[e] at j;show wA _ j
 .rw[e] at j;unfold mC at j;rw[List.filterMap_cons,D] at j;show j
theorem rB.stkFree (j:rB X pins σ H s):∀q∈mC X.stack,H q=none:=λq B=>by
 let e||B:=iA.mp (j.stkSub q B)
 .rw[e];show j.free
 .let(_,o,D,_):=j.ok.funs.mem B;show j.base.free q o D (j.ok.frf q B) λF=>j.ok.exfs q F B
theorem rB.step {g':Array GenState} {t':Nat} {d':Drawn} {ch:!Addr} (B:rB X pins σ H s)
  (V:∀j∈ch,(j∈X.ex\/X.s₀.heap.objs.size<=j)/\j≠X.env.locals/\(∀x c,X.env.cells.lookup x>c->c≠j)/\∀J∈X.pn++pins,J.1≠j)
  (keep:∀j o,j≠X.env.locals->j∉X.fs->j∉ch->s.heap.get? j>o->H j=none->h'.get? j>o)
  (a7:∀j o,j≠X.env.locals->j∈X.fs->j∉ch->s.heap.get? j>o->H j=none->∃sl,h'.get? j>{o with slots:=sl}) (free:∀j o,j∉ch->s.heap.get? j>o->H j=none->H' j=none)
  (b4:∀j o,j∉ch->s.heap.get? j>o->∃Y,h'.get? j>Y)
  (b5:∀j xs,H j>(.tup xs)->H' j>(.tup xs)) (a9:∀j o u,H j>(.frz o u)->H' j>(.frz o u)) (b3:∀j a0,H j>(.tbl a0)->∃more,H' j>(.tbl (a0++more)))
  (ns:∀m,s.heap.Ns X.env.locals m->h'.Ns X.env.locals m) (ah:GC X.prog X.w H' h') (ab:AllBare g'):
  rB X pins σ H' {s with heap:=h',gens:=g',drawn:=d',toks:=t'}:=by
 let a5:∀j o,X.s₀.heap.get? j>o->j≠X.env.locals:=λj o e=>uA (fA (dA e) B.ok.above);let Z:∀j o,X.s₀.heap.get? j>o->j∉X.ex->j∉ch:=λj o e D N=>by
  let F||F:=(V j N).1
  .show D F
  .show absurd (fA (dA e) F) (eB _)
 let a2:∀x c,X.env.cells.lookup x>c->∀v,s.heap.IsCell c v->h'.IsCell c v:=λx c e v ⟨o,O,a1⟩=>by
  let W:c∉ch:=λF=>(V c F).2.2.1 x c e rfl;by_cases a3:c∈X.fs
  .let(sl,q):=a7 c o (B.cne x c e) a3 W O (B.freeC x c e);show(_,q,a1)
  .show(o,keep c o (B.cne x c e) a3 W O (B.freeC x c e),a1)
 show(B.ok,B.os,ab,(λj o e n N D=>?_,λj o e n N D=>?_,λj o e n D=>?_,λj o e D=>?_,λj xs e=>b5 j xs (B.base.tups j xs e),λj o xs e=>a9 j o xs (B.base.frzs j o xs e),λj a0 e=>?_),?_,λx c e=>?_,?_,λx c e=>?_,λJ a4=>?_,ah,B.len)
 .show keep j o (a5 j o e) N (Z j o e D) (B.base.keep j o e n N D) (B.base.free j o e n D)
 .let(sl,L):=B.base.slot j o e n N D;let(b2,U):=a7 j _ (a5 j o e) N (Z j o e D) L (B.base.free j o e n D);show⟨b2,U⟩
 .let(Y,L):=B.base.there j o e D;show free j Y (Z j o e D) L (B.base.free j o e n D)
 .let(Y,L):=B.base.there j o e D;show b4 j Y (Z j o e D) L
 .let(ap,L):=B.base.tbls j a0 e;let(b1,U):=b3 j _ L;show⟨ap++b1,by rw[U,Array.append_assoc]⟩
 .let(m,ad,ac):=B.loc;show(m,ns m ad,λi x v L U a8=>?_);let(u,r,l):=ac i x v L U a8;show(u,r,?_);let l||(k,c,e,F):=l
  .show .inl l
  .show .inr (k,c,e,a2 x c e _ F)
 .let(v,F):=B.cell x c e;show⟨v,a2 x c e v F⟩
 .let(m,(o,_,_,O,_),_):=B.loc;show free _ o (λF=>(V _ F).2.1 rfl) O B.free
 .let(v,o,O,a1):=B.cell x c e;show free c o (λF=>(V c F).2.2.1 x c e rfl) O (B.freeC x c e)
 .let(e,n,ne,a6,d):=B.pin J a4;let W:J.1∉ch:=λF=>(V J.1 F).2.2.2 J a4 rfl;show(keep J.1 J.2 ne a6 W e n,free J.1 J.2 W e n,ne,a6,d)
theorem rB.un {t':Nat} (q:rB X pins σ H s) (u:Un X.fs [] H H' s.heap h') (U:GC X.prog X.w H' h'):rB X pins σ H' {s with heap:=h',toks:=t'}:=by
 let(m,(o,Y,ep,D,r),_):=id q.loc;let(sl,N):=u.any D q.free (by simp);show q.step (g':=s.gens) (d':=s.drawn) (ch:=[]) (λο W=>nomatch W) (λj o ο B ο e n=>u.keep j o e n B (by simp)) (λj o ο B ο e n=>u.slot j o e n B (by simp)) (λj o ο e n=>u.free j o e n (by simp)) (λj o ο e=>u.there j o e (by simp)) u.tups u.frzs u.tbls (λZ O=>by
  let(a0,L,J,F,V):=O;rw[D] at F;cases F;show(_,L,J,N,V)) U q.bare
theorem rB.call {g':Array GenState} {t':Nat} {d':Drawn} {ch:!Addr} (B:rB X pins σ H s) (u:Un (mC X.stack) ch H H' s.heap h') (Z:GC X.prog X.w H' h') (W:AllBare g')
  (J:∀j∈ch,(j∈X.ex\/X.s₀.heap.objs.size<=j)/\j≠X.env.locals/\(∀x c,X.env.cells.lookup x>c->c≠j)/\∀a0∈X.pn++pins,a0.1≠j):
  rB X pins σ H' {s with heap:=h',gens:=g',drawn:=d',toks:=t'}:=by
 let(m,(o,a2,ep,L,r),_):=id B.loc;let(sl,D):=u.any L B.free λF=>(J _ F).2.1 rfl;show B.step (ch:=ch) J (λj o D V q e n=>u.keep j o e n (λF=>(iA.mp (B.stkSub j F)).elim D V) q) (λj o ο ο q e n=>u.any e n q) (λj o q e n=>u.free j o e n q) (λj o q e=>u.there j o e q) u.tups u.frzs u.tbls (λa3 Y=>by
  let(a4,U,O,N,a1):=Y;rw[L] at N;cases N;show(_,U,O,D,a1)) Z W
theorem rB.turned {t':Nat} {D:Addr} (J:rB X pins σ H s) (k:∀j o,j≠D->s.heap.get? j>o->h'.get? j>o) (W:H D=none) (L:D≠X.env.locals)
  (h1:D∈X.ex\/X.s₀.heap.objs.size<=D) (h2:∀x c,X.env.cells.lookup x>c->c≠D) (h3:∀Z∈X.pn++pins,Z.1≠D):rB X pins σ H {s with heap:=h',toks:=t'}:=by
 let N:∀j u,H j>u->j≠D:=λj u e B=>by rw[B,W] at e;cases e
 show J.step (g':=s.gens) (d':=s.drawn) (ch:=[D]) (λj U=>?_) (λj o ο ο F e ο=>k j o (λB=>F (by simp[B])) e) (λj o ο ο F e ο=>⟨o.slots,k j o (λB=>F (by simp[B])) e⟩) (λο ο ο ο n=>n)
  (λj o F e=>⟨o,k j o (λB=>F (by simp[B])) e⟩) (λο ο e=>e) (λο ο ο e=>e) (λj a0 e=>⟨#[],by rw[e];simp⟩) (λm V=>?_) (λj u e=>?_) J.bare
 .let e:j=D:=by simpa using U
  subst e;show(h1,L,h2,h3)
 .let(o,O,ep,Y,r):=V;show(o,O,ep,k _ o (Ne.symm L) Y,r)
 .show (J.hok j u e).stay (λc v F q=>k c v ?_ q) (λο q=>q) λο ο q=>q;let B||B:=F
  .rw[B];show N j u e
  .show N c _ B
theorem rB.tok (I:rB X pins σ H s) (t:Nat):rB X pins σ H {s with toks:=t}:=I.un (h':=s.heap) (t':=t) Un.refl I.hok
theorem rB.kept {t':Nat} (I:rB X pins σ H s) (k:∀b u,s.heap.get? b>u->h'.get? b>u):rB X pins σ H {s with heap:=h',toks:=t'}:=I.un (Un.kept k) (I.hok.kept k)
theorem rB.laid {a:Addr} {o:HO} {t':Nat} (j:rB X pins σ H s) (k:∀B u,s.heap.get? B>u->h'.get? B>u) (q:s.heap.objs.size<=a) (D:LB X.prog X.w (uB H a o) h' a o):
 rB X pins σ (uB H a o) {s with heap:=h',toks:=t'}:=j.un (Un.laid k q (j.hok.fresh q)) (j.hok.laid k q D)
theorem rB.write {x e:Addr} {o:HO} {t':Nat} (q:rB X pins σ H s) (F:TL (H x)) (B:e=x\/H e>(.own x)) (k:∀j u,j≠e->s.heap.get? j>u->h'.get? j>u) (D:∃u,h'.get? e>u)
 (J:LB X.prog X.w (uB H x o) h' x o):rB X pins σ (uB H x o) {s with heap:=h',toks:=t'}:=q.un (Un.write F B k D) (q.hok.write F B k D J)
theorem rB.pins_of {B:!(Addr×Obj)} (j:rB X pins σ H s) (h:∀q∈B,s.heap.get? q.1>q.2/\H q.1=none/\q.1≠X.env.locals/\q.1∉X.fs/\∀v,q.2.data≠.cell v):rB X B σ H s:=
 (j.ok,j.os,j.bare,j.base,j.loc,j.cell,j.free,j.freeC,λq D=>(bB.mp D).elim (λF=>j.pin q (List.mem_append_left _ F)) (h q),j.hok,j.len)
theorem fT {N:!Str} (F:N.Nodup) {i j:Nat} {x:Str} (a:N[i]?>x) (q:N[j]?>x):i=j:=by
 let(h1,B):=FA.mp a;let(h2,D):=FA.mp q;show (List.getElem_inj F).mp (B.trans D.symm)
theorem n8 {M:Model} {A:Around} {E:Value->Shared->Prop} {i:Nat} {x:Str} {v:V} {u:Value} {Q:Unit->Shared->Prop} (B:rB X pins σ H s) (ap:X.N.Nodup) (a2:X.N[i]?>x) (N:NR X.env.scope x) (r:CB v u)
  (h:∀s',rB X pins (σ.set i (some v)) H s'->(∃a,Heap.SameBut a s.heap s'.heap/\(a=X.env.locals\/X.env.cells.lookup x>a))->Q ⟨⟩ s') (bm:X.fn x=true\/X.env.scope.names.lookup x>.local:=by first|exact .inl rfl|exact .inr rfl|assumption):wpAny M A (storeName X.env x u) Q E s:=by
 let(m,a7,b5):=id B.loc;let bl:(X.env.scope.kind == .class || (X.env.scope.kind == .module&&X.env.locals != X.env.globals))=false:=by rw[B.ok.kind];rfl
 let b4:i < σ.length:=by rw[B.len];show (FA.mp a2).1
 let cne:=B.cne;let bd:∀{a:Addr} {h':Heap},(∃o,s.heap.get? a>o/\H a=none)->Heap.SameBut a s.heap h'->GC X.prog X.w H h':=λ{a h'} be D F ca e=>by
  let(_,_,b3):=be;show (B.hok F ca e).stay (λc a4 L q=>(D.2 c ?_).trans q) (λο q=>q) λο ο q=>q;rintro rfl;let rfl||L:=L
  .rw[b3] at e;cases e
  .rw[b3] at L;cases L
 let Y||Y:=N
 .show wpAny_storeName_local Y a7 (λh' c0 D=>?_) bl;let(c3,_,_,c1,_):=id a7;show h _ (B.ok,B.os,B.bare,(λF o e n Z N=>?_,λF o e n Z N=>?_,B.base.free,λF o e N=>?_,B.base.tups,B.base.frzs,B.base.tbls),(_,c0,λj O ah J W a5=>?_),λO c e=>?_,B.free,B.freeC,λa1 a8=>?_,bd (c3,c1,B.free) D,by simpa using B.len) (_,D,.inl rfl)
  .show (D.2 F (uA (fA (dA e) B.ok.above))).trans (B.base.keep F o e n Z N)
  .let(sl,J):=B.base.slot F o e n Z N;show⟨sl,(D.2 F (uA (fA (dA e) B.ok.above))).trans J⟩
  .let(ab,J):=B.base.there F o e N;show⟨ab,(D.2 F (uA (fA (dA e) B.ok.above))).trans J⟩
  .by_cases a0:j=i
   .subst a0;rw[a2] at J;cases J;rw[List.getElem?_set_self b4] at W;cases W;show(u,r,.inl ⟨Y,by simp⟩)
   .rw[List.getElem?_set_ne (Ne.symm a0)] at W;let(ad,ac,q):=b5 j O ah J W a5;show(ad,ac,?_);let(k,e)||(k,c,e,U):=q
    .show .inl ⟨k,?_⟩;have:O≠x:=λe=>a0 (fT ap J (e ▸ a2));simp[this,e]
    .show .inr (k,c,e,U.sameBut D (cne O c e))
  .let(a4,U):=B.cell O c e;show⟨a4,U.sameBut D (cne O c e)⟩
  .let(e,n,ne,a9,d):=B.pin a1 a8;show((D.2 a1.1 ne).trans e,n,ne,a9,d)
 .let a6:X.fn x=true:=by
   let U||U:=bm
   .show U
   .rw[U] at Y;cases Y
  let(c,L):=B.ok.has x (.inl Y);let(a4,U):=B.cell x c L;show wpAny_storeName_cell B.ok.kind Y L U (λh' b1 D=>?_);let(bc,bb,c2):=id U;show h {s with heap:=h'} (B.ok,B.os,B.bare,(λF o e n Z N=>?_,λF o e n Z N=>?_,B.base.free,λF o e N=>?_,B.base.tups,B.base.frzs,B.base.tbls),(m,a7.sameBut D (Ne.symm (cne x c L)),λj O ah J W a5=>?_),λO a3 e=>?_,B.free,B.freeC,λa1 a8=>?_,bd (bc,bb,B.freeC x c L) D,by simpa using B.len) (c,D,.inr L)
  .show (D.2 F (uA (fA (dA e) (B.ok.cab x c a6 L)))).trans (B.base.keep F o e n Z N)
  .let(sl,J):=B.base.slot F o e n Z N;show⟨sl,(D.2 F (uA (fA (dA e) (B.ok.cab x c a6 L)))).trans J⟩
  .let(ab,J):=B.base.there F o e N;show⟨ab,(D.2 F (uA (fA (dA e) (B.ok.cab x c a6 L)))).trans J⟩
  .by_cases a0:j=i
   .subst a0;rw[a2] at J;cases J;rw[List.getElem?_set_self b4] at W;cases W;show(u,r,.inr (.inl Y,c,L,b1))
   .rw[List.getElem?_set_ne (Ne.symm a0)] at W;let(ad,ac,q):=b5 j O ah J W a5;show(ad,ac,?_);let q||(k,a3,e,ck):=q
    .show .inl q
    .show .inr (k,a3,e,ck.sameBut D ?_);rintro rfl;show a0 (fT ap J (B.ok.inj _ _ _ e L ▸ a2))
  .by_cases b2:a3=c
   .subst b2;show⟨_,b1⟩
   .let(ch,z2):=B.cell O a3 e;show⟨ch,z2.sameBut D b2⟩
  .let(e,n,ne,a9,d):=B.pin a1 a8;show((D.2 a1.1 ?_).trans e,n,ne,a9,d);intro q;rw[q,bb] at e;let cd:bc=a1.2:=lA e;show d a4 (by rw[<-cd];show c2)
theorem iT {M:Model} {A:Around} {E:Value->Shared->Prop} {i:Nat} {x:Str} {v:V} {u:Value} {Q:Unit->Shared->Prop} (j:rB X pins σ H s) (B:X.N.Nodup) (F:X.N[i]?>x) (J:NR X.env.scope x) (r:CB v u)
  (h:∀s',rB X pins (σ.set i (some v)) H s'->Q ⟨⟩ s') (D:X.fn x=true\/X.env.scope.names.lookup x>.local:=by first|exact .inl rfl|exact .inr rfl|assumption):wpAny M A (storeName X.env x u) Q E s:=
 n8 j B F J r (λs' q ο=>h s' q) D
theorem rB.call' {s':Shared} {ch:!Addr} (q:rB X pins σ H s) (F:s'.os=s.os) (u:Un (mC X.stack) ch H H' s.heap s'.heap) (J:GC X.prog X.w H' s'.heap) (D:AllBare s'.gens)
  (B:∀j∈ch,(j∈X.ex\/X.s₀.heap.objs.size<=j)/\j≠X.env.locals/\(∀x c,X.env.cells.lookup x>c->c≠j)/\∀N∈X.pn++pins,N.1≠j):rB X pins σ H' s':=by
 let(h',g',d',t',L):=s';let e:L=s.os:=F;subst e;show q.call (g':=g') (t':=t') (d':=d') u J D B
end
abbrev XK:=Value->Option Addr->Hp->Prop
abbrev St:=!(Option V)
abbrev VK:=V->Hp->Prop
abbrev TE:=St->Hp->VK->Prop
abbrev TT:=St->Hp->(Bool->Hp->Prop)->Prop
abbrev TA:=St->Hp->(!V->Hp->Prop)->Prop
set_option genInjectivity false in
structure ZC where
 nx:St->Hp->Prop
 rt:VK
 bk:St->Hp->Prop:=λο ο=>False
 ct:St->Hp->Prop:=λο ο=>False
abbrev TS:=ZC->St->Hp->Prop
def EP (X:Cx) (pins:!(Addr×Obj)) (σ:St) (Q:VK) (u:Value) (s':Shared):Prop:=∃v H',rB X pins σ H' s'/\CB v u/\Q v H'
def TP (X:Cx) (pins:!(Addr×Obj)) (σ:St) (Q:Bool->Hp->Prop) (b:Bool) (s':Shared):Prop:=∃H',rB X pins σ H' s'/\Q b H'
def AP (X:Cx) (pins:!(Addr×Obj)) (σ:St) (Q:!V->Hp->Prop) (us:!Value) (s':Shared):Prop:=∃vs H',rB X pins σ H' s'/\yB vs us/\Q vs H'
def SP (X:Cx) (pins:!(Addr×Obj)) (D:ZC) (f:Flow) (s':Shared):Prop:=
 match f with
 |.next=>∃σ' H',rB X pins σ' H' s'/\D.nx σ' H'
 |.brk=>∃σ' H',rB X pins σ' H' s'/\D.bk σ' H'
 |.cont=>∃σ' H',rB X pins σ' H' s'/\D.ct σ' H'
 |.ret u=>∃v σ' H',rB X pins σ' H' s'/\CB v u/\D.rt v H'
def PE (X:Cx) (e:Expr) (t:TE):Prop:=
 ∀(pins:!(Addr×Obj)) (s:Shared) (σ:St) (H:Hp) (Q:VK),rB X pins σ H s->t σ H Q->wpAny (model X.prog X.w) X.A (eval e X.env) (EP X pins σ Q) X.xe s
def PT (X:Cx) (e:Expr) (t:TT):Prop:=
 ∀(pins:!(Addr×Obj)) (s:Shared) (σ:St) (H:Hp) (Q:Bool->Hp->Prop),rB X pins σ H s->t σ H Q->wpAny (model X.prog X.w) X.A (isTrue e X.env (eval e X.env)) (TP X pins σ Q) X.xe s
def PW (X:Cx) (e:Expr) (t:TT):Prop:=
 ∀(HD:Sem Value) (pins:!(Addr×Obj)) (s:Shared) (σ:St) (H:Hp) (Q:Bool->Hp->Prop),rB X pins σ H s->t σ H Q->wpAny (model X.prog X.w) X.A (isTrue e X.env HD) (TP X pins σ Q) X.xe s
theorem PW.pt {X:Cx} {e:Expr} {t:TT} (h:PW X e t):PT X e t:=h _
def PA (X:Cx) (es:!Expr) (t:TA):Prop:=
 ∀(pos:Pos) (pins:!(Addr×Obj)) (s:Shared) (σ:St) (H:Hp) (Q:!V->Hp->Prop),rB X pins σ H s->t σ H Q->wpAny (model X.prog X.w) X.A (spliced (backTo pos (starEach es X.env))) (AP X pins σ Q) X.xe s
def PS (X:Cx) (st:Stmt) (t:TS):Prop:=
 ∀(pins:!(Addr×Obj)) (s:Shared) (σ:St) (H:Hp) (D:ZC),rB X pins σ H s->t D σ H->wpAny (model X.prog X.w) X.A (exec st X.env) (SP X pins D) X.xe s
def DD (X:Cx) (st:!Stmt) (t:TS):Prop:=
 ∀(pins:!(Addr×Obj)) (s:Shared) (σ:St) (H:Hp) (D:ZC),rB X pins σ H s->t D σ H->wpAny (model X.prog X.w) X.A (execs st X.env) (SP X pins D) X.xe s
theorem NB {q:Type} {t:Sem q} {Q j:q->Shared->Prop} {M:Model} {A:Around} {E:Value->Shared->Prop} {s:Shared} (h:wpAny M A t Q E s) (B:∀a s,Q a s->j a s):wpAny M A t j E s:=EA h B λο ο x=>x
section
variable {X:Cx}
def RI (i:Nat):TE:=λσ H Q=>∃v,σ[i]?>(some v)/\Q v H
def tC (v:V):TE:=λο H Q=>Q v H
theorem SI {i:Nat} {x:Str} {pos:Pos} (L:X.N[i]?>x) (W:cT X.env.scope x) (D:(x == ("__debug__":Str))=false:=by decide) (N:(x == ("__classdict__":Str))=false:=by decide):PE X (.Name x pos) (RI i):=by
 intro Y s Z H Q q h;let(v,e,h):=h;let(m,V,O):=q.loc;let(u,r,l):=O i x v L e W;let B:EP X Y Z Q u s:=(v,H,q,r,h)
 let(j,U)||(j,c,F,J):=l
 .show wpAny_Name (wpAny_loadName_local q.ok.kind j V U B) D
 .let j||j:=j
  .show wpAny_Name (wpAny_loadName_cell q.ok.kind j F J B) D
  .show wpAny_Name (wpAny_loadName_free q.ok.kind j F J B N) D
theorem HB {i j pos}:PE X (.Constant (.int i) j pos) (tC (.int i)):=λο ο ο H ο I h=>wpAny_Constant_int (.int i,H,I.tok _,⟨_,rfl⟩,h)
theorem zF {b j pos}:PE X (.Constant (.bool b) j pos) (tC (.bl b)):=λο ο ο H ο I h=>Constant_bool (.bl b,H,I,rfl,h)
theorem oE {j pos}:PE X (.Constant .none j pos) (tC .non):=λο ο ο H ο I h=>Constant_none (.non,H,I,rfl,h)
theorem OD {x j pos}:PE X (.Constant (.str x) j pos) (tC (.str x)):=λο ο ο H ο I h=>Calls.Constant_str (.str x,H,I.tok _,⟨_,rfl⟩,h)
def Gl (X:Cx) (x:Str):Prop:=X.env.kindOf x>.globalImplicit
theorem UI {E:Value->Shared->Prop} {F:!(Addr×Obj)} {s:Shared} {J:St} {H:Hp} {x:Str} {u:Value} {pos:Pos} {Q:Value->Shared->Prop} (j:rB X F J H s) (B:Gl X x) (D:X.mg x>u) (h:Q u s)
  (q:(x == ("__debug__":Str))=false:=by decide):wpAny (model X.prog X.w) X.A (eval (.Name x pos) X.env) Q E s:=
 Calls.Name_function_global j.ok.kind B (Calls.loadGlobal_global (by rw[j.ok.glob];show j.mod.glob.keeps j.bk) D h) q
theorem UL {E:Value->Shared->Prop} {L:!(Addr×Obj)} {s:Shared} {N:St} {H:Hp} {x:Str} {u:Value} {pos:Pos} {Q:Value->Shared->Prop} (j:rB X L N H s) (B:Gl X x) (D:X.mg x=none) (J:bootBuiltins x>u) (h:Q u s)
  (F:x≠"__name__":=by decide) (q:(x == ("__debug__":Str))=false:=by decide):wpAny (model X.prog X.w) X.A (eval (.Name x pos) X.env) Q E s:=by
 let(O,h1,h2):=j.mod.blt;show Calls.Name_function_global j.ok.kind B (Calls.loadGlobal_builtin (by rw[j.ok.glob];show j.mod.glob.keeps j.bk) D (by rw[j.ok.blt];show h1.keeps j.bk) ((h2 x F).trans J) h) q
theorem o8 {x:Str} {v:V} {u:Value} {pos:Pos} (B:Gl X x) (D:X.mg x>u) (r:CB v u) (q:(x == ("__debug__":Str))=false:=by decide):PE X (.Name x pos) (tC v):=
 λο ο ο H ο j h=>UI j B D (v,H,j,r,h) q
theorem p8 {x:Str} {v:V} {u:Value} {pos:Pos} (B:Gl X x) (D:X.mg x=none) (J:bootBuiltins x>u) (r:CB v u) (F:x≠"__name__":=by decide) (q:(x == ("__debug__":Str))=false:=by decide):PE X (.Name x pos) (tC v):=
 λο ο ο H ο j h=>UL j B D J (v,H,j,r,h) F q
variable {a b:Expr} {ta tb:TE} {pos:Pos}
def PC (X:Cx) (op:CmpOp) (a b:Expr) (t:TE):Prop:=
 ∀(pins:!(Addr×Obj)) (s:Shared) (σ:St) (H:Hp) (Q:VK),rB X pins σ H s->t σ H Q->
  wpAny (model X.prog X.w) X.A (eval a X.env) (λv s₁=>wpAny (model X.prog X.w) X.A (eval b X.env) (λu s₂=>wpAny (model X.prog X.w) X.A (compareOp op v u) (EP X pins σ Q) X.xe s₂) X.xe s₁) X.xe s
theorem JF (q:Expr) {j:CmpOp} (h:j≠.In) (h2:j≠.NotIn):behindInMarks j q=false:=by
 let B:(j == CmpOp.In)=false:=by cases j<;>first|rfl|exact absurd rfl h
 let D:(j == CmpOp.NotIn)=false:=by cases j<;>first|rfl|exact absurd rfl h2
 cases q<;>simp[behindInMarks,B,D]
def tB (t:TE):TT:=λσ H Q=>t σ H λx H1=>∃c,x=.bl c/\Q c H1
theorem jT {j:CmpOp} {t:TE} (h:PC X j a b t) (h1:behindInMarks j b=false:=by first|exact JF _ (by decide) (by decide)|rfl):PT X (.Compare a [j] [b] pos) (tB t):=by
 intro L s U H Q D J;show wpAny_isTrue_Compare1 (NB (h L s U H _ D J) λv V h1=>NB h1 λu W h2=>NB h2 λc Y zz=>?_) h1;let(x,B,F,O,N):=zz;let(d,rfl,q):=N;cases O;show wpAny_truthy_bool (B,F,q)
theorem MD {e:Expr} {t:TE} (h:PE X e t) (F:∀HD,isTrue e X.env HD=(do let v<-HD;standAt e.pos;holding [v] (truthy v)):=by intro _;rfl):PT X e (tB t):=by
 intro L s U H Q B J;show isTrue_plain (NB (h L s U H _ B J) λv V ⟨x,j,D,O,N⟩=>?_) (F _);let(d,rfl,q):=N;cases O;show wpAny_truthy_bool (j,D,q)
variable {tA tB':TT} {rest:!Expr}
def VL (t u:TT):TT:=λσ H Q=>t σ H λc H1=>if c=true then u σ H1 Q else Q false H1
def OW (t u:TT):TT:=λσ H Q=>t σ H λc H1=>if c=true then Q true H1 else u σ H1 Q
def WL (t:TT):TT:=λσ H Q=>t σ H λc H1=>Q (not c) H1
theorem QW (q:PT X a tA):PW X (.BoolOp .And [a] pos) tA:=by
 intro J B s D H Q j h;show isTrue_and (NB (q B s D H Q j h) λc F e=>?_);cases c with
 |true=>show isTrue_and_nil e
 |false=>show e
theorem kT (q:PT X a tA):PW X (.BoolOp .Or [a] pos) tA:=by
 intro J B s D H Q j h;show isTrue_or (NB (q B s D H Q j h) λc F e=>?_);cases c with
 |false=>show isTrue_or_nil e
 |true=>show e
theorem RW (L:PT X a tA) (N:PW X (.BoolOp .And (b::rest) pos) tB'):PW X (.BoolOp .And (a::b::rest) pos) (VL tA tB'):=by
 intro U B s F H Q J h;show isTrue_and (NB (L B s F H _ J h) λc O zz=>?_);let(j,q,D):=zz;cases c with
 |true=>show N U B O F j Q q D
 |false=>show(j,q,D)
theorem VI (L:PT X a tA) (N:PW X (.BoolOp .Or (b::rest) pos) tB'):PW X (.BoolOp .Or (a::b::rest) pos) (OW tA tB'):=by
 intro U B s F H Q J h;show isTrue_or (NB (L B s F H _ J h) λc O zz=>?_);let(j,q,D):=zz;cases c with
 |true=>show(j,q,D)
 |false=>show N U B O F j Q q D
theorem WE (B:PT X a tA):PT X (.UnaryOp .Not a pos) (WL tA):=by
 intro D s F H Q q h;show isTrue_not (B D s F H (λc j=>Q (not c) j) q h)
def uH (ta tb:TE):TE:=λσ H Q=>ta σ H λx H1=>∃c,x=.bl c/\if c=true then tb σ H1 Q else Q (.bl false) H1
def vH (ta:TE):TE:=λσ H Q=>ta σ H λx H1=>∃c,x=.bl c/\Q (.bl (not c)) H1
theorem wL {op} {t:TE} (h:PE X a t):PE X (.BoolOp op [a] pos) t:=λB s D H Q j q=>BoolOp_one (h B s D H Q j q)
theorem wH (L:PE X a ta) (N:PE X (.BoolOp .And (b::rest) pos) tb):PE X (.BoolOp .And (a::b::rest) pos) (uH ta tb):=by
 intro D s F H Q J h;show BoolOp_and (NB (L D s F H _ J h) λv U zz=>?_);let(x,q,B,O,j):=zz;let(c,rfl,j):=j;cases O;show wpAny_truthy_bool ?_;cases c with
 |true=>show N D U F q Q B j
 |false=>show(.bl false,q,B,rfl,j)
theorem SW (F:PE X a ta):PE X (.UnaryOp .Not a pos) (vH ta):=by
 intro J s N H Q B h;show UnaryOp_ (NB (F J s N H _ B h) λv O zz=>?_);let(x,q,D,L,j):=zz;let(c,rfl,j):=j;cases L;show not_of (wpAny_truthy_bool (.bl (not c),q,D,rfl,j))
end
def RB (K:PySem.W.Frag) (H:Hp) (a:Addr) (xs:!V):Prop:=
 Rd H a (.lst xs)\/
  ∃(o:Obj) (its:Array Value) (n:Nat),K.lookup a>o/\o.cls=.type "list"/\o.dict=none/\o.data=.seq its n/\its.size<=sizeLine/\yB xs its.toList
def ED (K:PySem.W.Frag) (H:Hp) (a:Addr) (xs:!V):Prop:=
 Rd H a (.tup xs)\/
  ∃(o:Obj) (its:Array Value) (n:Nat),K.lookup a>o/\o.cls=.type "tuple"/\o.data=.seq its n/\its.size<=sizeLine/\yB xs its.toList
def lT:Value->Option V
 |.none=>some .non
 |.bool b=>some (.bl b)
 |.int i _=>some (.int i)
 |.str x _=>some (.str x)
 |.bytes b _=>some (.byt b)
 |.float b _=>some (.flt b)
 |.ref a=>↑a
 |.type n=>some (.ty n)
 |_=>none
theorem CB.abs {x:V} {u:Value} (r:CB x u):lT u>x:=by
 cases x with
 |non=>cases r;rfl
 |bl _=>cases r;rfl
 |int _=>let(t,rfl):=r;rfl
 |str _=>let(t,rfl):=r;rfl
 |byt _=>let(t,rfl):=r;rfl
 |flt _=>let(t,rfl):=r;rfl
 |ref _=>cases r;rfl
 |ty _=>cases r;rfl
theorem CB.inj {x y:V} {u:Value} (r:CB x u) (q:CB y u):x=y:=lA (r.abs.symm.trans q.abs)
theorem yB.inj:∀{xs ys:!V} {us:!Value},yB xs us->yB ys us->xs=ys
 |_,_,_,.nil,.nil=>rfl
 |_,_,_,.cons r t,.cons r' t'=>by rw[r.inj r',yB.inj t t']
section
variable {X:Cx} {pins:!(Addr×Obj)} {σ:St} {H:Hp} {s:Shared} {a:Addr} {xs ys:!V}
theorem RB.of {K:PySem.W.Frag} (h:H a>(.lst xs)):RB K H a xs:=.inl (.inl h)
theorem ED.of {K:PySem.W.Frag} (h:H a>(.tup xs)):ED K H a xs:=.inl (.inl h)
theorem rB.list (q:rB X pins σ H s) (h:RB X.K H a xs):∃j:!Value,yB xs j/\PlainL s.heap a j.toArray/\xs.length<=sizeLine:=by
 let h||(o,j,n,F,B,D,J,N,r):=h
 .let(L,j,n,r,e):=h.ok q.hok;show(j,r,(_,n,e,rfl,rfl,rfl),L)
 .show(j.toList,r,(o,n,q.kIn a o F,B,D,by simpa using J),?_);let e:=r.length;simp only[Array.length_toList] at e;omega
theorem rB.tuple (q:rB X pins σ H s) (h:ED X.K H a xs):∃j:!Value,yB xs j/\IsTup s.heap a j.toArray/\xs.length<=sizeLine:=by
 let h||(o,j,n,D,B,F,N,r):=h
 .let(L,j,r,J):=h.ok q.hok;show(j,r,J,L)
 .show(j.toList,r,(o,q.kIn a o D,B,n,by simpa using F),?_);let e:=r.length;simp only[Array.length_toList] at e;omega
theorem rB.list_inj (j:rB X pins σ H s) (h:RB X.K H a xs) (h':RB X.K H a ys):xs=ys:=by
 let(D,r,(o,n,e,_,_,d),_):=j.list h;let(its',F,(L,J,q,_,_,d'),_):=j.list h';rw[e] at q;cases q;rw[d] at d';injection d' with B _;have:D=its':=by simpa using congrArg Array.toList B
 subst this;show r.inj F
end
abbrev Cx.wish (X:Cx) (E:Value->Shared->Prop):Cx:={X with xe:=E}
abbrev Cx.nox (X:Cx):Cx:=X.wish λο ο=>False
theorem Cx.Ok.wish {X:Cx} (ok:X.Ok) (E:Value->Shared->Prop):(X.wish E).Ok:=
 (ok.mod,ok.kind,ok.glob,ok.blt,ok.above,ok.inj,ok.has,ok.cab,ok.hd,ok.frames,ok.stk,ok.exf,ok.bs,ok.bsz,ok.noex,ok.exfs,ok.funs,ok.frf)
theorem Cx.Ok.unwish {X:Cx} {E:Value->Shared->Prop} (ok:(X.wish E).Ok):X.Ok:=
 (ok.mod,ok.kind,ok.glob,ok.blt,ok.above,ok.inj,ok.has,ok.cab,ok.hd,ok.frames,ok.stk,ok.exf,ok.bs,ok.bsz,ok.noex,ok.exfs,ok.funs,ok.frf)
section
variable {X:Cx} {pins:!(Addr×Obj)} {σ:St} {H:Hp} {s:Shared} {E:Value->Shared->Prop}
theorem rB.wish (I:rB X pins σ H s) (E:Value->Shared->Prop):rB (X.wish E) pins σ H s:=(I.ok.wish E,I.os,I.bare,I.base,I.loc,I.cell,I.free,I.freeC,I.pin,I.hok,I.len)
theorem rB.unwish (I:rB (X.wish E) pins σ H s):rB X pins σ H s:=(I.ok.unwish,I.os,I.bare,I.base,I.loc,I.cell,I.free,I.freeC,I.pin,I.hok,I.len)
theorem SP.unwish {F:ZC} {f:Flow} {s':Shared} (h:SP (X.wish E) pins F f s'):SP X pins F f s':=by
 cases f with
 |next=>let(D,j,B,q):=h;show(D,j,B.unwish,q)
 |brk=>let(D,j,B,q):=h;show(D,j,B.unwish,q)
 |cont=>let(D,j,B,q):=h;show(D,j,B.unwish,q)
 |ret u=>let(v,D,j,B,r,q):=h;show(v,D,j,B.unwish,r,q)
theorem PE.nox {e:Expr} {t:TE} (h:PE X.nox e t):PE X e t:=λJ s N H Q B F=>
 EA (h J s N H Q (B.wish _) F) (λ_ _ ⟨v,j,D,r,q⟩=>(v,j,D.unwish,r,q)) λο ο L=>False.elim L
theorem PT.nox {e:Expr} {t:TT} (h:PT X.nox e t):PT X e t:=λJ s N H Q B F=>
 EA (h J s N H Q (B.wish _) F) (λ_ _ ⟨j,D,q⟩=>(j,D.unwish,q)) λο ο L=>False.elim L
theorem DD.nox {st:!Stmt} {t:TS} (h:DD X.nox st t):DD X st t:=λF s L H j B D=>
 EA (h F s L H j (B.wish _) D) (λο ο q=>q.unwish) λο ο J=>False.elim J
end
section
variable {X:Cx} {st:Stmt} {rest:!Stmt} {t u:TS} {e:Expr} {te:TE} {pos:Pos}
def tNext:TS:=λD σ H=>D.nx σ H
def YL (t u:TS):TS:=λD σ H=>t {D with nx:=u D} σ H
theorem AC:DD X [] tNext:=λο ο q H ο j h=>wpAny_execs_nil (q,H,j,h)
theorem OB (h1:PS X st t) (h2:DD X rest u):DD X (st::rest) (YL t u):=by
 intro B s N H j F h;show wpAny_execs_cons (NB (h1 B s N H {j with nx:=u j} F h) λf L q=>?_);cases f with
 |next=>
  let(O,D,J,q):=q;show h2 B L O D j J q
 |ret v=>show q
 |brk=>show q
 |cont=>show q
theorem EB (h1:PS X st t):DD X [st] t:=by
 intro D s F H j B h;show wpAny_execs_cons (NB (h1 D s F H j B h) λf J q=>?_);cases f with
 |next=>show wpAny_execs_nil q
 |ret v=>show q
 |brk=>show q
 |cont=>show q
theorem rB.quiet {q:!(Addr×Obj)} {B:St} {H:Hp} {s:Shared} (j:rB X q B H s):interactive X.env=false:=by simp[interactive,j.ok.kind]
def xH (te:TE):TS:=λD σ H=>te σ H λο H1=>D.nx σ H1
theorem AF (F:PE X e te) (J:swapsWith e none pos.line X.env=pure false:=by rfl):PS X (.Expr e pos) (xH te):=by
 intro L s q H O j h;show wpAny_Expr_any (NB (F L s q H _ j h) λv V ⟨x,B,D,U,N⟩=>(q,B,D,N)) j.quiet J
def ZL (te:TE):TS:=λD σ H=>te σ H D.rt
theorem PB (F:PE X e te):PS X (.Return (some e) pos) (ZL te):=by
 intro J s j H O B h;show wpAny_Return_some (NB (F J s j H _ B h) λv U ⟨x,q,D,N,L⟩=>(x,j,q,D,N,L))
def aM (c:TT) (t u:TS):TS:=λD σ H=>c σ H λb H1=>if b=true then t D σ H1 else u D σ H1
theorem BC {c:Expr} {a J:!Stmt} {O:TT} (Y:PT X c O) (V:DD X a t) (W:DD X J u):PS X (.If c a J pos) (aM O t u):=by
 intro j s q H B U h;show wpAny_If (NB (Y j s q H _ U h) λd N zz=>?_);let(D,F,L):=zz;cases d with
 |true=>show V j N q D B F L
 |false=>show W j N q D B F L
def tNever:TS:=λο ο ο=>False
theorem mT:PS X st tNever:=λο ο ο ο ο ο h=>h.elim
theorem TW {j:!Stmt}:DD X j tNever:=λο ο ο ο ο ο h=>h.elim
end
abbrev TG:=V->St->Hp->(St->Hp->Prop)->Prop
abbrev TGs:=!V->St->Hp->(St->Hp->Prop)->Prop
def PG (X:Cx) (target:Expr) (t:TG):Prop:=
 ∀(pins:!(Addr×Obj)) (s:Shared) (σ:St) (H:Hp) (v:V) (u:Value) (Q:St->Hp->Prop),rB X pins σ H s->CB v u->t v σ H Q->
  wpAny (model X.prog X.w) X.A (assign target X.env u) (λο s'=>∃σ' H',rB X pins σ' H' s'/\Q σ' H') X.xe s
def bM (X:Cx) (ts:!Expr) (t:TGs):Prop:=
 ∀(pins:!(Addr×Obj)) (s:Shared) (σ:St) (H:Hp) (vs:!V) (us:!Value) (Q:St->Hp->Prop),rB X pins σ H s->yB vs us->t vs σ H Q->
  wpAny (model X.prog X.w) X.A (assignInOrder ((assignEach ts X.env).map (·.2)) us) (λο s'=>∃σ' H',rB X pins σ' H' s'/\Q σ' H') X.xe s
abbrev TSet:=V->V->V->Hp->(Hp->Prop)->Prop
def cM (X:Cx) (t:TSet):Prop:=
 ∀(pins:!(Addr×Obj)) (s:Shared) (σ:St) (H:Hp) (o i v:V) (ov iv u:Value) (Q:Hp->Prop),rB X pins σ H s->CB o ov->CB i iv->CB v u->t o i v H Q->
  wpAny (model X.prog X.w) X.A (setItem ov iv u) (λο s'=>∃H',rB X pins σ H' s'/\Q H') X.xe s
section
variable {X:Cx} {pos:Pos}
def LF (i:Nat):TG:=λv σ H Q=>Q (σ.set i (some v)) H
theorem GE {i:Nat} {x:Str} (B:X.N.Nodup) (F:X.N[i]?>x) (J:NR X.env.scope x) (D:X.fn x=true\/X.env.scope.names.lookup x>.local:=by first|exact .inl rfl|exact .inr rfl|assumption):PG X (.Name x pos) (LF i):=by
 intro L s N H v u Q j r h;show wpAny_assign_Name (iT j B F J r (λs' q=>(_,H,q,h)) D)
def gNil:TGs:=λvs σ H Q=>vs=[]/\Q σ H
def yH (t:TG) (u:TGs):TGs:=λvs σ H Q=>∃v r,vs=v::r/\t v σ H λσ' H'=>u r σ' H' Q
theorem pT:bM X [] gNil:=by
 intro B s q H vs us Q j r h;let(e,h):=h;subst e;cases r;show assignInOrder_nil (q,H,j,h)
theorem WI {e:Expr} {j:!Expr} {t:TG} {u:TGs} (h1:PG X e t) (h2:bM X j u)
  (L:(assignEach (e::j) X.env).map (·.2)=assign e X.env::(assignEach j X.env).map (·.2):=by rfl):bM X (e::j) (yH t u):=by
 intro q s V H vs us Q D r h;let(v,Y,J,h):=h;subst J;cases r with
 |cons r O=>
  rw[L];show assignInOrder_cons (NB (h1 q s V H _ _ _ D r h) λ_ U zz=>?_);let(W,B,F,N):=zz;show h2 q U W B _ _ Q F O N
def YI (K:PySem.W.Frag) (n:Nat) (t:TGs):TG:=λv σ H Q=>∃a xs,v=.ref a/\ED K H a xs/\xs.length=n/\t xs σ H Q
theorem UW {j:!Expr} {k:Nat} {t:TGs} {n:Nat} (U:X.calm=true) (h:bM X j t)
  (W:(assignEach j X.env).length=n:=by rfl) (Z:(assignEach j X.env).findIdx? (·.1)=none:=by rfl):PG X (.Tuple j k pos) (YI X.K n t):=by
 intro D s J H v u Q q r B;let(a,xs,O,Y,V,B):=B;subst O;cases r;let(a3,F,a0,a2):=q.tuple Y;show assign_Tuple_tuple (q.ok.hd U) a0 (by simp[W,<-V,F.length]) Z λh' a1=>?_;let L:rB X D J H {s with heap:=h'}:=q.kept (t':=s.toks) λN o e=>a1 N o (uA (dA e)) e;show h D _ J H xs _ Q L (by simpa using F) B
def dM (to ti:TE) (t:TSet):TG:=λv σ H Q=>to σ H λo H1=>ti σ H1 λi H2=>t o i v H2 λH3=>Q σ H3
theorem ZI {o i:Expr} {to F:TE} {t:TSet} (a0:PE X o to) (Z:PE X i F) (a1:cM X t)
  (Y:∀v,assign (.Subscript o i pos) X.env v=(do
   let j<-holding [v] (eval o X.env)
   let q<-holding [v,j] (eval i X.env)
   standAt pos
   holding [v,j,q] (setItem j q v)
   release [v,j,q] []):=by intro _;rfl):PG X (.Subscript o i pos) (dM to F t):=by
 intro D s B H v u Q O r h;rw[Y];show aA (wpAny_holding (NB (a0 D s B H _ O h) λj a7 zz=>?_));let(x,J,U,a5,a2):=zz;show aA (wpAny_holding (NB (Z D a7 B J _ U a2) λq a8 zz=>?_));let(a9,L,V,a6,a3):=zz;show aA (wpAny_standAt (aA (wpAny_holding (NB (a1 D a8 B L x a9 v j q u _ V a5 a6 r a3) λ_ ab zz=>?_))));let(N,W,a4):=zz;show wpAny_release (B,N,W,a4)
def aJ (te:TE) (g:TG):TS:=λD σ H=>te σ H λx H1=>g x σ H1 D.nx
theorem bJ {j e:Expr} {D:TE} {g:TG} (O:PE X e D) (U:PG X j g) (V:swapsWithSole [j] e pos.line X.env=pure false:=by rfl) (W:swappedStores [j] e X.env=pure none:=by rfl)
  (h1:(assignEach [j] X.env).map (·.2)=[assign j X.env]:=by rfl):PS X (.Assign [j] e pos) (aJ D g):=by
 intro B s F H a1 L h;show wpAny_Assign_stores (NB (O B s F H _ L h) λv a0 zz=>?_) V W;let(x,J,N,Z,Y):=zz;rw[h1];show NB (U B a0 F J x v _ N Z Y) λο a2 q=>q
theorem OC {i:Nat} {x:Str} {e:Expr} {q:TE} {j:Pos} (L:X.N.Nodup) (U:X.N[i]?>x) (W:NR X.env.scope x) (N:PE X e q) (V:swapsWith e (some (.Name x j)) pos.line X.env=pure false:=by rfl) (O:X.fn x=true\/X.env.scope.names.lookup x>.local:=by first|exact .inl rfl|exact .inr rfl|assumption):
  PS X (.Assign [.Name x j] e pos) (aJ q (LF i)):=by
 intro Y s a1 H a2 D h;show wpAny_Assign_Name (NB (N Y s a1 H _ D h) λv a3 zz=>?_) V;let(a5,B,F,a0,Z):=zz;show iT F L U W a0 (λa4 J=>(_,B,J,Z)) O
end
section
variable {X:Cx} {pos:Pos}
def NF (c:TT) (tb:TS):TS:=λD σ H=>∃W:Nat->St->Hp->Prop,(∃m,W m σ H)/\∀m σ H,W m σ H->
 c σ H λb H1=>if b=true then ∃N:St->Hp->Prop,(∀σ' H',N σ' H'->∃m',m' < m/\W m' σ' H')/\tb {D with nx:=N,ct:=N,bk:=D.nx} σ H1 else D.nx σ H1
theorem r8 {c:Expr} {a3:!Stmt} {a7:TT} {a6:TS} (a5:PassesOwn (model X.prog X.w) X.A X.env X.xe) (ah:PT X c a7) (ad:DD X a3 a6):PS X (.While c a3 [] pos) (NF a7 a6):=by
 intro V s bb H bc a9 h;let(W,(ap,b4),b3):=h;show wpAny_While (codeAny_whileLoop (λn s'=>∃a8 Z,rB X V a8 Z s'/\W n a8 Z) ?_ ap (bb,H,a9,b4));rintro n b1 ⟨F,a0,ab,b5⟩;show wpAny_passesOwn a5 (NB (ah V b1 F a0 _ ab (b3 n F a0 b5)) λac b2 zz=>?_);let(a1,a2,B):=zz;cases ac with
 |true=>
  let(N,a4,B):=B;rw[vA rfl];show wpAny_passesOwn a5 (NB (ad V b2 F a1 _ a2 B) λf bd D=>?_);cases f with
  |next=>
   let(q,j,J,U):=D;let(O,L,Y):=a4 q j U;show(O,L,q,j,J,Y)
  |cont=>
   let(q,j,J,U):=D;let(O,L,Y):=a4 q j U;show(O,L,q,j,J,Y)
  |brk=>show D
  |ret v=>show D
 |false=>
  rw[kA oA];show wpAny_execs_nil (F,a1,a2,B)
end
set_option genInjectivity false in
structure It where
 go:Nat->Hp->Prop
 yld:Nat->Hp->V->Hp->Prop
 stop:Nat->Hp->Prop
def aD (X:Cx) (pins:!(Addr×Obj)) (H:Hp) (b:Addr):Prop:=
 H b=none/\b≠X.env.locals/\b∉X.fs/\(b∈X.ex\/X.s₀.heap.objs.size<=b)/\(∀x c,X.env.cells.lookup x>c->c≠b)/\∀p∈X.pn++pins,p.1≠b
theorem rB.fpOk {X:Cx} {L:!(Addr×Obj)} {V:St} {H J:Hp} {s:Shared} {D:Addr} (j:rB X L V H s) (B:s.heap.objs.size<=D) (N:J D=none):aD X L J D:=by
 show(N,Nat.ne_of_gt (fA j.lt B),j.nofs B,.inr (cB j.sz B),λx c e F=>?_,λU O F=>?_)
 .let(v,q):=j.cell x c e;show absurd (fA q.lt (by rw[F];show B)) (eB _)
 .show absurd (fA (dA (j.pin U O).1) (by rw[F];show B)) (eB _)
structure HE (P:Program) (w:World) (K:PySem.W.Frag) (tg:Expr) (J:It) (fp:!Addr) (it:Addr) (tn:Nat->Heap->Prop):Prop where
 mem:it∈fp
 obj:∀i h,tn i h->∀b∈fp,∃o,h.get? b>o/\∀v,o.data≠.cell v
 keep:∀i h h',tn i h->(∀b∈fp,∀o,h.get? b>o->h'.get? b>o)->tn i h'
 item:∀(X:Cx),X.prog=P->X.w=w->X.K=K->X.calm=true->∀(i:Nat) (pins:!(Addr×Obj)) (s:Shared) (σ:St) (H:Hp) (E:Value->Shared->Prop),rB X pins σ H s->(∀b∈fp,aD X pins H b)->tn i s.heap->J.go i H->
  wpAny (model P w) X.A (pyNext (.ref it)) (λr s1=>∃u,r>u/\
   wpAny (model P w) X.A (letOwnedTupleGo tg (.ref it) u) (λο s2=>∃x H',rB X pins σ H' s2/\CB x u/\J.yld i H x H'/\tn (i+1) s2.heap/\∀b∈fp,H' b=none) E s1) E s
 done:∀(X:Cx),X.prog=P->X.w=w->X.K=K->X.calm=true->∀(i:Nat) (pins:!(Addr×Obj)) (s:Shared) (σ:St) (H:Hp) (E:Value->Shared->Prop),rB X pins σ H s->(∀b∈fp,aD X pins H b)->tn i s.heap->J.stop i H->
  wpAny (model P w) X.A (pyNext (.ref it)) (λr s1=>r=none/\rB X pins σ H s1) E s
 self:∀(A:Around) (i:Nat) (s:Shared) (Q:Value->Shared->Prop) (E:Value->Shared->Prop),tn i s.heap->Q (.ref it) s->wpAny (model P w) A (pyIter (.ref it)) Q E s
abbrev TI:=St->Hp->(It->Hp->Prop)->Prop
def VW (X:Cx) (pins:!(Addr×Obj)) (σ:St) (tg:Expr) (R:It->Hp->Prop) (itv:Value) (s2:Shared):Prop:=
 ∃(it:Addr) (fp:!Addr) (tn:Nat->Heap->Prop) (J:It) (H':Hp),itv=.ref it/\rB X pins σ H' s2/\HE X.prog X.w X.K tg J fp it tn/\tn 0 s2.heap/\(∀b∈fp,aD X pins H' b)/\R J H'
def PI (X:Cx) (tg iter:Expr) (wi:TI):Prop:=
 ∀(pins:!(Addr×Obj)) (s:Shared) (σ:St) (H:Hp) (R:It->Hp->Prop),rB X pins σ H s->wi σ H R->
  wpAny (model X.prog X.w) X.A (eval iter X.env) (λv s1=>wpAny (model X.prog X.w) X.A (pyIter v) (VW X pins σ tg R) X.xe s1) X.xe s
theorem qT {M : Model} {A : Around} {E : Value -> Shared -> Prop} {s : Shared} {B : Expr} {q : Addr} {u : Value} {o : Obj} {n : String} {vs : Array Value} {Q : Unit -> Shared -> Prop} (L : s.heap.get? q = some o) (D : o.cls = .type n) (F : o.data = .fields vs)
    (J : ["enumerate", "zip", "dict_itemiterator", "dict_reverseitemiterator", "odict_iterator", "itertools.zip_longest", "itertools.pairwise"].contains n = false) (j : Q ⟨⟩ s) : wpAny M A (letOwnedTupleGo B (.ref q) u) Q E s := by
  unfold letOwnedTupleGo;cases B <;> first
    | show qA j
    | (cases u <;> first
        | show qA j
        | (show aA (wpAny_load L ?_)
           rw [D, F];change wpAny M A (if (["enumerate", "zip", "dict_itemiterator", "dict_reverseitemiterator", "odict_iterator", "itertools.zip_longest", "itertools.pairwise"].contains n && vs[0]? == some (rawInt _)) = true then _ else _) Q E s;rw [kA (by intro h; rw [J, Bool.false_and] at h; cases h)];show qA j))
def cJ (K:PySem.W.Frag) (a:Addr):It:=
 (λi H=>∃xs x,RB K H a xs/\xs[i]?>x,λi H x H'=>H'=H/\∀xs,RB K H a xs->xs[i]?>x,λi H=>∃xs,RB K H a xs/\xs.length<=i)
def zH (lo:Int) (n:Nat):It:=(λi ο=>i < n,λi H x H'=>H'=H/\x=.int (lo+i),λi ο=>n<=i)
theorem t8 {P:Program} {w:World} {K:PySem.W.Frag} {b4:Expr} (a D:Addr):HE P w K b4 (cJ K a) [D] D (λi h=>h.IsListIter D a i) where
 mem:=by simp
 obj:=λi h st q B=>by
  let e:q=D:=by simpa using B
  subst e;let(o,e,c,d):=st;show(o,e,λv a7=>by rw[d] at a7;cases a7)
 keep:=λi h h' st k=>st.at λo e=>k D (by simp) o e
 item:=by
  intro X Y a0 W a4 i a5 s a8 H E j F st Z;subst Y a0 W;let(xs,x,J,a1):=Z;let(b1,a3,a2,ap):=j.list J;let(u,ad,b2):=a3.get a1;let(L,N,ac,O,U,V):=F D (by simp);show wpAny_pyNext_list_item st a2.isList (x:=u) (by simpa using ad) λh' a6 b3=>?_;let a9:rB X a5 a8 H {s with heap:=h'}:=j.turned (t':=s.toks) (λq o B e=>(b3.2 q B).trans e) L N O U V;let(o,e,c,d):=id a6;show(u,rfl,qT (s:={s with heap:=h'}) e c d (by decide) (x,H,a9,b2,⟨rfl,λbb ah=>by rw[j.list_inj ah J];show a1⟩,a6,λq B=>(F q B).1))
 done:=by
  intro X Y a0 W a4 i a5 s a8 H E j F st Z;subst Y a0 W;let(xs,J,a1):=Z;let(b1,a3,a2,ap):=j.list J;let(L,N,ac,O,U,V):=F D (by simp);let b5:=a3.length;show wpAny_pyNext_list_end (j.ok.hd a4) st a2.isList (by simp;omega) λh' ab=>⟨rfl,j.turned (t':=s.toks) (λq o B e=>ab q o B e) L N O U V⟩
 self:=λο ο ο ο ο st h=>wpAny_pyIter_listiter st h
theorem u8 {P:Program} {w:World} {K:PySem.W.Frag} {ac:Expr} (j:Addr) (lo:Int) (n:Nat):HE P w K ac (zH lo n) [j] j (λi h=>IsRangeIter h j (lo+(i:Nat) * 1) ((n:Int) - (i:Nat)) 1) where
 mem:=by simp
 obj:=λi h st q B=>by
  let e:q=j:=by simpa using B
  subst e;show(_,st,λv ad=>by
   let ah:Data.fields _=Data.cell v:=ad;cases ah)
 keep:=λi h h' st k=>k j (by simp) _ st
 item:=by
  intro X Y a1 V Z i a2 s a5 H E D F st a0;subst Y a1 V;let(J,L,a8,N,O,U):=F j (by simp);let W:=Walks.range (prog:=X.prog) (w:=X.w) (D.ok.hd Z) j lo 1 n;show W.item i s _ _ a0 st λv h' a4 a9 a3 ab=>?_;let(t,rfl):=a9;let a6:rB X a2 a5 H {s with heap:=h',toks:=a4}:=D.turned (λq o B e=>ab q o (by simpa using B) e) J L N O U;show(_,rfl,qT (s:={s with heap:=h',toks:=a4}) (n:="range_iterator") a3 rfl rfl (by decide) (.int (lo+i),H,a6,⟨t,?_⟩,⟨rfl,rfl⟩,a3,λq B=>(F q B).1));rw[Int.mul_one]
 done:=by
  intro X Y a1 V Z i a2 s a5 H E D F st a0;subst Y a1 V;let(J,L,a8,N,O,U):=F j (by simp);show wpAny_pyNext_range_end (D.ok.hd Z) st (by have:n<=i:=a0;omega) λh' a7=>⟨rfl,D.turned (t':=s.toks) (λq o B e=>a7 q o B e) J L N O U⟩
 self:=λο ο ο ο ο st h=>wpAny_pyIter_rangeiter st h
section
variable {X:Cx} {tg:Expr}
def AH (K:PySem.W.Frag) (tl:TE):TI:=λσ H R=>tl σ H λx H1=>∃a,x=.ref a/\(∃xs,RB K H1 a xs)/\R (cJ K a) H1
theorem eM {l:Expr} {F:TE} (O:PE X l F):PI X tg l (AH X.K F):=by
 intro W s a0 H a1 L h;show NB (O W s a0 H _ L h) λv B zz=>?_;let(x,J,j,Z,Y):=zz;let(a,e,(xs,U),q):=Y;subst e;cases Z;let(a3,a4,V,a2):=j.list U;show wpAny_pyIter_list V.isList ?_;show(B.heap.objs.size,[B.heap.objs.size],_,_,J,rfl,j.kept (t':=B.toks) λD o e=>cA _ e,t8 a _,(_,jA _ rfl,rfl,rfl),λD N=>?_,q);let e:D=B.heap.objs.size:=by simpa using N
 subst e;show j.fpOk (eA _) (j.hok.fresh (eA _))
theorem v8 {F:!(Addr×Obj)} {L:St} {H:Hp} {s:Shared} {N:It->Hp->Prop} {E:Value->Shared->Prop} {lo j:Int} {t u v:Tok} {J:Nat} (O:rB X F L H s) (h1: -(2 ^ 62)<=lo) (h2:lo < 2 ^ 62) (h3: -(2 ^ 62)<=j) (W:j < 2 ^ 62)
  (q:N (zH lo (j - lo).toNat) H):wpAny (model X.prog X.w) X.A (pyIter (.ref s.heap.objs.size)) (VW X F L tg N) E {s with heap:=s.heap.push {cls:=.type "range",data:=.fields #[.int lo t,.int j u,.int 1 v]},toks:=J}:=by
 show wpAny_pyIter_range (IsRange.new ..) (small_one h1 h2 h3 W) ?_;let B:rB X F L H {s with heap:=s.heap.push {cls:=.type "range",data:=.fields #[.int lo t,.int j u,.int 1 v]},toks:=J}:=O.kept λD o e=>cA _ e;show((s.heap.push {cls:=.type "range",data:=.fields #[.int lo t,.int j u,.int 1 v]}).objs.size,[(s.heap.push {cls:=.type "range",data:=.fields #[.int lo t,.int j u,.int 1 v]}).objs.size],_,_,H,rfl,
  B.kept (t':=J) λD o e=>cA _ e,u8 _ lo (j - lo).toNat,?_,λD Y=>?_,q)
 .let U:lo+((0:Nat):Int) * 1=lo:=by simp
  let V:(((j - lo).toNat:Nat):Int) - ((0:Nat):Int)=Builtin.Range.rangeSize lo j 1:=by rw[rangeSize_one];split<;>omega
  change IsRangeIter _ _ (lo+((0:Nat):Int) * 1) ((((j - lo).toNat:Nat):Int) - ((0:Nat):Int)) 1;rw[U,V];show jA _ rfl
 .let e:D=(s.heap.push {cls:=.type "range",data:=.fields #[.int lo t,.int j u,.int 1 v]}).objs.size:=by simpa using Y
  subst e;show B.fpOk (eA _) (B.hok.fresh (eA _))
def BH (ta:TA):TI:=λσ H R=>ta σ H λvs H1=>∃j:Int,vs=[.int j]/\ -(2 ^ 62)<=j/\j < 2 ^ 62/\R (zH 0 j.toNat) H1
theorem OR {a:Expr} {F:TA} {V pos:Pos} (N:Gl X "range") (O:X.mg "range"=none) (L:PA X [a] F) (U:starEach [a] X.env=[(false,eval a X.env)]:=by rfl):PI X tg (.Call (.Name "range" V) [a] [] pos) (BH F):=by
 intro W s a1 H a3 D h;show Call_ (UL D N O boot_range (PyProof.Rows.callWith_type1 (NB (L pos W s a1 H _ D h) λus a4 zz=>?_) U rfl));let(vs,a2,J,Z,B):=zz;let(j,e,B,Y,q):=B;subst e;cases Z with
 |cons r a0=>
  cases a0;let(t,rfl):=r;show call_range_1 (v8 J ⋯ ⋯ B Y (by simpa using q))
def rT (wi:TI) (g:TG) (tb:TS):TS:=λD σ H=>wi σ H λJ H1=>∃W:Nat->Nat->St->Hp->Prop,(∃m,W 0 m σ H1)/\∀i m σ H,W i m σ H->
 (J.stop i H/\D.nx σ H)\/(J.go i H/\∃N:St->Hp->Prop,(∀σ' H',N σ' H'->∃m',m' < m/\W (i+1) m' σ' H')/\∀x H',J.yld i H x H'->g x σ H' λσ2 H2=>tb {D with nx:=N,ct:=N,bk:=D.nx} σ2 H2)
def dE (fp:!Addr) (h:Heap):!(Addr×Obj):=fp.filterMap λb=>(h.get? b).map λo=>(b,o)
theorem xL {q:!Addr} {h:Heap} {j:Addr} {o:Obj} (B:j∈q) (e:h.get? j>o):(j,o)∈dE q h:=List.mem_filterMap.mpr (j,B,by rw[e];rfl)
theorem w8 {D:!Addr} {h:Heap} {j:Addr×Obj} (L:j∈dE D h):j.1∈D/\h.get? j.1>j.2:=by
 let(B,J,e):=List.mem_filterMap.mp L;cases q:h.get? B with
 |none=>rw[q] at e;cases e
 |some o=>
  rw[q] at e;let F:(B,o)=j:=lA e;subst F;show⟨J,q⟩
theorem rB.pinned {D:!(Addr×Obj)} {O:St} {H:Hp} {s:Shared} {q:!Addr} (J:rB X D O H s) (Y:∀j∈q,aD X D H j) (Z:∀j∈q,∃o,s.heap.get? j>o/\∀v,o.data≠.cell v):rB X (D++dE q s.heap) O H s:=
 J.pins_of λB a0=>(bB.mp a0).elim (λF=>J.pin B (nA _ F)) λF=>by
  let(N,e):=w8 F;let(U,V,W,_):=Y B.1 N;let(o,L,d):=Z B.1 N;rw[e] at L;cases L;show(e,U,V,W,d)
theorem rB.unpinned {q pl:!(Addr×Obj)} {B:St} {H:Hp} {s:Shared} (j:rB X (q++pl) B H s):rB X q B H s:=j.pins_of λF D=>j.pin F (nA _ (List.mem_append_left _ D))
theorem dJ {a3:Expr} {ab:!Stmt} {b5:TI} {g:TG} {b3:TS} {pos:Pos} (V:PassesOwn (model X.prog X.w) X.A X.env X.xe) (ah:X.calm=true) (cl:PI X tg a3 b5) (ck:PG X tg g) (D:DD X ab b3)
  (d1:∀x,foldedSetIterable a3 X.env x=pure x:=by intro _;rfl):PS X (.For tg a3 ab [] pos) (rT b5 g b3):=by
 intro O s bb H e6 be h;show wpAny_For (NB (cl O s bb H _ be h) λv ec h1=>NB h1 λeb ef h2=>?_) d1;let(ea,U,b4,e7,bc,e,bl,T,dp,ac,W,(d3,e0),dt):=h2;subst e;let a6:∀{J:Hp},(∀j∈U,J j=none)->∀j∈U,aD X O J j:=λcs j D=>⟨cs j D,(ac j D).2⟩
 show codeAny_forLoop_any (λn s'=>∃i Z J,rB X O Z J s'/\b4 i s'.heap/\(∀j∈U,J j=none)/\W i n Z J) ?_ d3 (0,bb,bc,bl,dp,λj D=>(ac j D).1,e0);rintro n ap ⟨i,a0,a1,a8,b2,ad,e1⟩;let(dr,dd)||(ca,N,ch,step):=dt i n a0 a1 e1
 .show wpAny_passesOwn V (NB (T.done X rfl rfl rfl ah i O ap a0 a1 X.xe a8 (a6 ad) b2 dr) λr dk zz=>?_);let(a2,bm):=zz;subst a2;show wpAny_execs_nil (a0,a1,bm,dd)
 .show wpAny_passesOwn V (NB (T.item X rfl rfl rfl ah i O ap a0 a1 X.xe a8 (a6 ad) b2 ca) λr dk zz=>?_);let(u,a2,cd):=zz;subst a2;show wpAny_passesOwn V (NB cd λ_ b1 zz=>?_);let(x,a7,c0,de,e4,a5,c3):=zz;let c1:=c0.pinned (a6 c3) (T.obj _ _ a5);show wpAny_passesOwn V (NB (ck _ b1 a0 a7 x u _ c1 de (step x a7 e4)) λ_ dl zz=>?_);let(e5,bd,c2,db):=zz;show wpAny_passesOwn V (NB (D _ dl e5 bd _ c2 db) λf a4 L=>?_);let a9:∀{F:St} {q:Hp},rB X (O++dE U b1.heap) F q a4->N F q->∃m,m < n/\∃i Z J,rB X O Z J a4/\b4 i a4.heap/\(∀j∈U,J j=none)/\W i m Z J:=λ{F q} B Y=>by
   let(d2,co,e2):=ch F q Y;show(d2,co,i+1,F,q,B.unpinned,T.keep _ _ _ a5 λj D o e=>(B.pin (j,o) (nA _ (nA _ (xL D e)))).1,λj D=>?_,e2);let(o,e,d):=T.obj _ _ a5 j D;show (B.pin (j,o) (nA _ (nA _ (xL D e)))).2.1
  cases f with
  |next=>let(F,q,B,Y):=L;show a9 B Y
  |cont=>let(F,q,B,Y):=L;show a9 B Y
  |brk=>let(F,q,B,L):=L;show(F,q,B.unpinned,L)
  |ret v=>let(e3,F,q,B,dh,L):=L;show(e3,F,q,B.unpinned,dh,L)
end
theorem x8 {K:PySem.W.Frag} {a:Addr} {xs:!V} {g:TG} {a1:TS} {F:ZC} {j:St} {H:Hp} (B:Nat->St->Hp->Prop) (h0:B 0 j H) (a4:∀i j H,i<=xs.length->B i j H->RB K H a xs)
  (a5:∀i x j H,xs[i]?>x->B i j H->g x j H λY J=>a1 {F with nx:=B (i+1),ct:=B (i+1),bk:=F.nx} Y J) (a2:∀j H,B xs.length j H->F.nx j H):
  ∃W:Nat->Nat->St->Hp->Prop,(∃m,W 0 m j H)/\∀i m j H,W i m j H->
   ((cJ K a).stop i H/\F.nx j H)\/((cJ K a).go i H/\∃N:St->Hp->Prop,(∀U D,N U D->∃a0,a0 < m/\W (i+1) a0 U D)/\∀x D,(cJ K a).yld i H x D->g x j D λY J=>a1 {F with nx:=N,ct:=N,bk:=F.nx} Y J):=by
 show(λi m j H=>m=xs.length - i/\i<=xs.length/\B i j H,(xs.length,by simp,Nat.zero_le _,h0),?_);rintro i m j H ⟨rfl,a3,L⟩;let q:=a4 i j H a3 L;by_cases Z:i < xs.length
 .show .inr ((xs,xs[i],q,by simp[Z]),B (i+1),λU D a6=>(xs.length - (i+1),⋯,rfl,Z,a6),λx D O=>?_);let(e,O):=O;subst e;show a5 i x j _ (O xs q) L
 .let e:i=xs.length:=⋯;subst e;show .inl ⟨(xs,q,eA _),a2 j H L⟩
theorem y8 {lo:Int} {n:Nat} {g:TG} {Z:TS} {D:ZC} {j:St} {H:Hp} (B:Nat->St->Hp->Prop) (h0:B 0 j H)
  (a1:∀i j H,i < n->B i j H->g (.int (lo+i)) j H λU F=>Z {D with nx:=B (i+1),ct:=B (i+1),bk:=D.nx} U F) (a0:∀j H,B n j H->D.nx j H):
  ∃W:Nat->Nat->St->Hp->Prop,(∃m,W 0 m j H)/\∀i m j H,W i m j H->
   ((zH lo n).stop i H/\D.nx j H)\/((zH lo n).go i H/\∃N:St->Hp->Prop,(∀O q,N O q->∃V,V < m/\W (i+1) V O q)/\∀x q,(zH lo n).yld i H x q->g x j q λU F=>Z {D with nx:=N,ct:=N,bk:=D.nx} U F):=by
 show(λi m j H=>m=n - i/\i<=n/\B i j H,(n,by simp,Nat.zero_le _,h0),?_);rintro i m j H ⟨rfl,a3,Y⟩;by_cases J:i < n
 .show .inr (J,B (i+1),λO q a2=>(n - (i+1),⋯,rfl,J,a2),λx q L=>?_);let(e,L):=L;subst e L;show a1 i j _ J Y
 .let e:i=n:=⋯;subst e;show .inl ⟨eA _,a0 j H Y⟩
abbrev R2:=V->V->Hp->VK->Prop
def zD (X:Cx) (f:Value->Value->Sem Value) (r:R2):Prop:=
 ∀(pins:!(Addr×Obj)) (s:Shared) (σ:St) (H:Hp) (x y:V) (v u:Value) (Q:VK),rB X pins σ H s->CB x v->CB y u->r x y H Q->
  wpAny (model X.prog X.w) X.A (f v u) (EP X pins σ Q) X.xe s
def WW (X:Cx) (f:Value->Sem Value) (r:V->Hp->VK->Prop):Prop:=
 ∀(pins:!(Addr×Obj)) (s:Shared) (σ:St) (H:Hp) (x:V) (v:Value) (Q:VK),rB X pins σ H s->CB x v->r x H Q->
  wpAny (model X.prog X.w) X.A (f v) (EP X pins σ Q) X.xe s
def TC (X:Cx) (f:Value) (r:!V->Hp->VK->Prop):Prop:=
 ∀(pins:!(Addr×Obj)) (s:Shared) (σ:St) (H:Hp) (xs:!V) (us:!Value) (Q:VK),rB X pins σ H s->yB xs us->r xs H Q->
  wpAny (model X.prog X.w) X.A (call f us) (EP X pins σ Q) X.xe s
def TruR (X:Cx) (r:V->Hp->(Bool->Hp->Prop)->Prop):Prop:=
 ∀(pins:!(Addr×Obj)) (s:Shared) (σ:St) (H:Hp) (x:V) (v:Value) (Q:Bool->Hp->Prop),rB X pins σ H s->CB x v->r x H Q->
  wpAny (model X.prog X.w) X.A (truthy v) (TP X pins σ Q) X.xe s
def fM (r:R2) (ta tb:TE):TE:=λσ H Q=>ta σ H λx H1=>tb σ H1 λy H2=>r x y H2 Q
def YW (r:V->Hp->VK->Prop) (ta:TE):TE:=λσ H Q=>ta σ H λx H1=>r x H1 Q
def rI (C:Int->Int->Prop) (g:Int->Int->V):R2:=λx y H Q=>∃i j,x=.int i/\y=.int j/\C i j/\Q (g i j) H
def CG (g:Int->Int->V):R2:=λx y H Q=>∃i j,x=.int i/\y=.int j/\Q (g i j) H
def rU (g:Int->V):V->Hp->VK->Prop:=λx H Q=>∃i,x=.int i/\Q (g i) H
section
variable {X:Cx} {a b c:Expr} {ta tb tc:TE} {pos:Pos}
theorem eJ (W:PE X a ta) (Y:PE X b tb) {D:!(Addr×Obj)} {s:Shared} {B:St} {H:Hp} {L:V->V->Hp->Prop} (N:rB X D B H s)
  (h:ta B H λx J=>tb B J λq j=>L x q j) {Q:Value->Shared->Prop} {f:Value->Value->Sem Value}
  (Z:∀v u F x q j,rB X D B j F->CB x v->CB q u->L x q j->wpAny (model X.prog X.w) X.A (f v u) Q X.xe F):
  wpAny (model X.prog X.w) X.A (eval a X.env) (λv a5=>wpAny (model X.prog X.w) X.A (eval b X.env) (λu a6=>wpAny (model X.prog X.w) X.A (f v u) Q X.xe a6) X.xe a5) X.xe s:=by
 show NB (W D s B H _ N h) λv a4 zz=>?_;let(x,J,O,a2,a0):=zz;show NB (Y D a4 B J _ O a0) λu F zz=>?_;let(q,j,U,a3,a1):=zz;show Z v u F x q j U a2 a3 a1
theorem lC {j:Operator} {r:R2} (N:zD X (binaryOp j) r) (J:PE X a ta) (L:PE X b tb):PE X (.BinOp a j b pos) (fM r ta tb):=by
 intro O s Z H Q D h;show wpAny_BinOp (eJ J L D h λv u W x Y B F U V q=>N O W Z B x Y v u Q F U V q)
theorem gM {j:UnaryOp} {r:V->Hp->VK->Prop} (N:WW X (unaryOp j) r) (L:PE X a ta):PE X (.UnaryOp j a pos) (YW r ta):=by
 intro q s B H Q F h;show UnaryOp_ (NB (L q s B H _ F h) λv W ⟨x,D,J,U,O⟩=>N q W B D x v Q J U O)
theorem PR {f:Value->Value->Sem Value} {C:Int->Int->Prop} {g:Int->Int->Int}
  (F:∀(i j:Int) (t u:Tok) (s:Shared) (Q:Value->Shared->Prop) (E:Value->Shared->Prop),C i j->Q (.int (g i j) s.toks) {s with toks:=s.toks+1}->wpAny (model X.prog X.w) X.A (f (.int i t) (.int j u)) Q E s):
  zD X f (rI C λi j=>.int (g i j)):=by
 intro N s U H x O v u Q B J L h;let(i,j,rfl,rfl,D,q):=h;let(t,rfl):=J;let(t',rfl):=L;show F i j t t' s _ _ D (.int (g i j),H,B.tok _,⟨_,rfl⟩,q)
theorem iM {f:Value->Value->Sem Value} {g:Int->Int->Int}
  (D:∀(i j:Int) (t u:Tok) (s:Shared) (Q:Value->Shared->Prop) (E:Value->Shared->Prop),Q (.int (g i j) s.toks) {s with toks:=s.toks+1}->wpAny (model X.prog X.w) X.A (f (.int i t) (.int j u)) Q E s):
  zD X f (CG λi j=>.int (g i j)):=by
 intro L s O H x N v u Q B F J h;let(i,j,rfl,rfl,q):=h;let(t,rfl):=F;let(t',rfl):=J;show D i j t t' s _ _ (.int (g i j),H,B.tok _,⟨_,rfl⟩,q)
theorem fJ {f:Value->Value->Sem Value} {g:Int->Int->Bool}
  (D:∀(i j:Int) (t u:Tok) (s:Shared) (Q:Value->Shared->Prop) (E:Value->Shared->Prop),Q (.bool (g i j)) s->wpAny (model X.prog X.w) X.A (f (.int i t) (.int j u)) Q E s):
  zD X f (CG λi j=>.bl (g i j)):=by
 intro L s O H x N v u Q B F J h;let(i,j,rfl,rfl,q):=h;let(t,rfl):=F;let(t',rfl):=J;show D i j t t' s _ _ (.bl (g i j),H,B,rfl,q)
def jM (i j:Int):Prop:=0 < j/\j < 1073741824
def kM (i j:Int):Prop:=0<=j/\j<=1000000/\i.natAbs < 2 ^ 64
def DG (i j:Int):Prop:=(-(2 ^ 64) < i/\i < 2 ^ 64)\/(-(2 ^ 64) < j/\j < 2 ^ 64)
theorem DG.ok {i j:Int} (h:DG i j):IntMulOk i j:=by
 let(h1,h2)||(h1,h2):=h
 .show .of_left (intBits_le_64 h1 h2)
 .show .of_right (intBits_le_64 h1 h2)
theorem CH:zD X (binaryOp .Add) (CG λi j=>.int (i+j)):=iM λο ο ο ο ο ο ο q=>add_int q
theorem lM:zD X (binaryOp .Sub) (CG λi j=>.int (i - j)):=iM λο ο ο ο ο ο ο q=>sub_int q
theorem ZW:zD X (binaryOp .Mult) (rI DG λi j=>.int (i * j)):=PR λο ο ο ο ο ο ο B q=>mul_int q B.ok
theorem aX:zD X (binaryOp .FloorDiv) (rI jM λi j=>.int (i / j)):=PR λi j ο ο ο ο ο B q=>by
 let h1:(0:Int) < j:=B.1;let h2:j < 1073741824:=B.2;show floordiv_int ⋯ (by rw[Int.fdiv_eq_ediv_of_nonneg i ⋯];show q) (.inl (PyProof.noPylong_small ⋯))
theorem BF:zD X (binaryOp .Mod) (rI (λο j=>0 < j) λi j=>.int (i % j)):=PR λi j ο ο ο ο ο B q=>by
 let h1:(0:Int) < j:=B;show mod_int' ⋯ (by rw[Int.fmod_eq_emod_of_nonneg i ⋯];show q)
theorem QR:zD X (binaryOp .Pow) (rI kM λi j=>.int (i ^ j.toNat)):=PR λο ο ο ο ο ο ο B q=>pow_int_small B.1 B.2.1 B.2.2 q
end
def eF:V->V->Bool
 |.non,.non=>true|.non,.int _=>true|.int _,.non=>true|.non,.bl _=>true|.bl _,.non=>true|.non,.str _=>true|.str _,.non=>true
 |.int _,.int _=>true|.bl _,.bl _=>true|.str _,.str _=>true|.byt _,.byt _=>true
 |.int _,.str _=>true|.str _,.int _=>true|.bl _,.str _=>true|.str _,.bl _=>true
 |_,_=>false
def rEq:R2:=λx y H Q=>eF x y=true/\Q (.bl (decide (x=y))) H
def rNe:R2:=λx y H Q=>eF x y=true/\Q (.bl (not (decide (x=y)))) H
theorem bX {i j:Int}:decide (V.int i=V.int j)=(i == j):=by
 rw[Bool.eq_iff_iff];simp
theorem cX {i j:Bool}:decide (V.bl i=V.bl j)=(i == j):=by
 rw[Bool.eq_iff_iff];simp
theorem dX {i j:Str}:decide (V.str i=V.str j)=(i == j):=by
 rw[Bool.eq_iff_iff];simp
theorem eX {i j:Array UInt8}:decide (V.byt i=V.byt j)=(i.toList == j.toList):=by
 rw[Bool.eq_iff_iff];cases i;cases j;simp
section
variable {X:Cx} {a b c:Expr} {ta tb tc:TE} {pos:Pos}
theorem UC {B:!(Addr×Obj)} {D:St} {H:Hp} {s:Shared} {Q:VK} {k j:Bool} (F:rB X B D H s) (q:Q (.bl k) H) (e:k=j):EP X B D Q (.bool j) s:=by
 subst e;show(.bl k,H,F,rfl,q)
theorem CF:zD X (compareOp .Eq) rEq:=by
 intro N s O H x J v u Q B L D h;let(F,q):=h;cases x with
 |non=>
  cases L;cases J with
  |non=>cases D;show PySem.EqNone.eq_none_none (UC B q (by simp))
  |bl j=>cases D;show PySem.EqNone.eq_none_bool (UC B q (by simp))
  |int j=>let(t',rfl):=D;show PySem.EqNone.eq_none_int (UC B q (by simp))
  |str j=>let(t',rfl):=D;show PySem.EqNone.eq_none_str (UC B q (by simp))
  |_=>show absurd (show false=true from F) oA
 |bl i=>
  cases L;cases J with
  |non=>cases D;show PySem.EqNone.eq_bool_none (UC B q (by simp))
  |bl j=>cases D;show eq_bool (UC B q cX)
  |str j=>let(t',rfl):=D;show PySem.EqMixed.eq_bool_str (UC B q (by simp))
  |_=>show absurd (show false=true from F) oA
 |int i=>
  let(t,rfl):=L;cases J with
  |non=>cases D;show PySem.EqNone.eq_int_none (UC B q (by simp))
  |int j=>let(t',rfl):=D;show eq_int (UC B q bX)
  |str j=>let(t',rfl):=D;show PySem.EqMixed.eq_int_str (UC B q (by simp))
  |_=>show absurd (show false=true from F) oA
 |str i=>
  let(t,rfl):=L;cases J with
  |non=>cases D;show PySem.EqNone.eq_str_none (UC B q (by simp))
  |bl j=>cases D;show PySem.EqMixed.eq_str_bool (UC B q (by simp))
  |int j=>let(t',rfl):=D;show PySem.EqMixed.eq_str_int (UC B q (by simp))
  |str j=>let(t',rfl):=D;show eq_str (UC B q dX)
  |_=>show absurd (show false=true from F) oA
 |byt i=>
  let(t,rfl):=L;cases J with
  |byt j=>let(t',rfl):=D;show PySem.W.eq_bytes (UC B q eX)
  |_=>show absurd (show false=true from F) oA
 |_=>cases J<;>show absurd (show false=true from F) oA
theorem SR:zD X (compareOp .NotEq) rNe:=by
 intro N s O H x J v u Q B L D h;let(F,q):=h;cases x with
 |non=>
  cases L;cases J with
  |non=>cases D;show PySem.EqNone.ne_none_none (UC B q (by simp))
  |bl j=>cases D;show PySem.EqNone.ne_none_bool (UC B q (by simp))
  |int j=>let(t',rfl):=D;show PySem.EqNone.ne_none_int (UC B q (by simp))
  |str j=>let(t',rfl):=D;show PySem.EqNone.ne_none_str (UC B q (by simp))
  |_=>show absurd (show false=true from F) oA
 |bl i=>
  cases L;cases J with
  |non=>cases D;show PySem.EqNone.ne_bool_none (UC B q (by simp))
  |bl j=>cases D;show ne_bool (UC B q (congrArg not cX))
  |str j=>let(t',rfl):=D;show PySem.EqMixed.ne_bool_str (UC B q (by simp))
  |_=>show absurd (show false=true from F) oA
 |int i=>
  let(t,rfl):=L;cases J with
  |non=>cases D;show PySem.EqNone.ne_int_none (UC B q (by simp))
  |int j=>let(t',rfl):=D;show ne_int (UC B q (congrArg not bX))
  |str j=>let(t',rfl):=D;show PySem.EqMixed.ne_int_str (UC B q (by simp))
  |_=>show absurd (show false=true from F) oA
 |str i=>
  let(t,rfl):=L;cases J with
  |non=>cases D;show PySem.EqNone.ne_str_none (UC B q (by simp))
  |bl j=>cases D;show PySem.EqMixed.ne_str_bool (UC B q (by simp))
  |int j=>let(t',rfl):=D;show PySem.EqMixed.ne_str_int (UC B q (by simp))
  |str j=>let(t',rfl):=D;show ne_str (UC B q (congrArg not dX))
  |_=>show absurd (show false=true from F) oA
 |byt i=>
  let(t,rfl):=L;cases J with
  |byt j=>let(t',rfl):=D;show PySem.W.ne_bytes (UC B q (congrArg not eX))
  |_=>show absurd (show false=true from F) oA
 |_=>cases J<;>show absurd (show false=true from F) oA
theorem TR:zD X (compareOp .Lt) (CG λi j=>.bl (decide (i < j))):=fJ λο ο ο ο ο ο ο q=>lt_int q
theorem DH:zD X (compareOp .LtE) (CG λi j=>.bl (decide (i<=j))):=fJ λο ο ο ο ο ο ο q=>le_int q
theorem tT:zD X (compareOp .Gt) (CG λi j=>.bl (decide (j < i))):=fJ λο ο ο ο ο ο ο q=>gt_int q
theorem UR:zD X (compareOp .Is) (λx B H Q=>B=.non/\Q (.bl (decide (x=.non))) H):=by
 intro J s L H x B v u Q D j F h;let(rfl,q):=h;cases F;show is_none_gen (UC D q ?_);cases x<;>first
  |(cases j;rfl)
  |(let(t,rfl):=j;rfl)
theorem uT:zD X (compareOp .IsNot) (λx B H Q=>B=.non/\Q (.bl (not (decide (x=.non)))) H):=by
 intro J s L H x B v u Q D j F h;let(rfl,q):=h;cases F;show isnot_none_gen (UC D q ?_);cases x<;>first
  |(cases j;rfl)
  |(let(t,rfl):=j;rfl)
theorem FB (q:Expr) {j:CmpOp} (h:j≠.In:=by decide) (h2:j≠.NotIn:=by decide):behindInMarks j q=false:=by
 let B:(j == CmpOp.In)=false:=by cases j<;>first|rfl|exact absurd rfl h
 let D:(j == CmpOp.NotIn)=false:=by cases j<;>first|rfl|exact absurd rfl h2
 cases q<;>simp[behindInMarks,B,D]
theorem mM {j:CmpOp} {r:R2} (O:zD X (compareOp j) r) (J:PE X a ta) (L:PE X b tb) (N:behindInMarks j b=false):PE X (.Compare a [j] [b] pos) (fM r ta tb):=by
 intro U s a0 H Q D h;show wpAny_Compare1 (eJ J L D h λv u Y x Z B F V W q=>O U Y a0 B x Z v u Q F V W q) N
def EH (t:TE):TT:=λσ H Q=>t σ H λx H'=>∃k,x=.bl k/\Q k H'
theorem rD {j:CmpOp} {r:R2} (Z:zD X (compareOp j) r) (V:PE X a ta) (W:PE X b tb) (Y:behindInMarks j b=false):PT X (.Compare a [j] [b] pos) (EH (fM r ta tb)):=by
 intro q s B H Q L h;show wpAny_isTrue_Compare1 (NB (V q s B H _ L h) λv a6 ⟨x,D,N,a3,a0⟩=>NB (W q a6 B D _ N a0) λu a7 ⟨a8,F,O,a4,a1⟩=>
  NB (Z q a7 B F x a8 v u _ O a3 a4 a1) λc a9 ⟨ab,J,U,a5,k,e,a2⟩=>?_) Y
 subst e;cases a5;show wpAny_truthy_bool (J,U,a2)
def OF (r r':R2) (ta tb tc:TE):TE:=λσ H Q=>ta σ H λx H1=>tb σ H1 λy H2=>r x y H2 λz H3=>∃k,z=.bl k/\
 (if k=true then tc σ H3 λw' H4=>r' y w' H4 Q else Q (.bl false) H3)
theorem Q8 {B D:CmpOp} {r N:R2} (a7:zD X (compareOp B) r) (a8:zD X (compareOp D) N) (a3:PE X a ta) (a4:PE X b tb) (a5:PE X c tc)
  (a6:lastMarks [B,D] [b,c]=false:=by with_unfolding_all rfl):PE X (.Compare a [B,D] [b,c] pos) (OF r N ta tb tc):=by
 intro j s q H Q Z h;show Compare_chain (NB (a3 j s q H _ Z h) λv b1 ⟨x,V,a0,ad,a9⟩=>chain_link (NB (a4 j b1 q V _ a0 a9) λu b2 ⟨U,W,a1,O,ab⟩=>
  NB (a7 j b2 q W x U v u _ a1 ad O ab) λd b3 ⟨bc,F,J,ah,k,e,L⟩=>?_)) a6
 subst e;cases ah;show wpAny_truthy_bool ?_;cases k with
 |false=>show ite_ff (.bl false,F,J,rfl,L)
 |true=>show ite_tt (chain_last (NB (a5 j b3 q F _ J L) λb5 b4 ⟨bb,Y,a2,ap,ac⟩=>a8 j b4 q Y U bb u b5 Q a2 O ap ac))
def TruV (K:PySem.W.Frag) (x:V) (H:Hp) (k:Bool):Prop:=
 match x with
 |.non=>k=false
 |.bl b=>k=b
 |.int i=>k=(i != 0)
 |.str y=>y.length<=sizeLine/\k=((y.length:Int) != 0)
 |.byt y=>y.size<=sizeLine/\k=((y.size:Int) != 0)
 |.ref p=>(∃xs,RB K H p xs/\k= not xs.isEmpty)\/(∃xs,ED K H p xs/\k= not xs.isEmpty)\/∃kvs,H p>(.dK kvs)/\k= not kvs.isEmpty
 |_=>False
theorem eE:(sizeLine:Nat) < 2 ^ 63:=by rw[sizeLine_eq];decide
theorem rE {x:V} {us:!Value} (r:yB [x] us):∃u,us=[u]/\CB x u:=by
 cases r with
 |cons j q=>cases q;show(_,rfl,j)
def vT (K:PySem.W.Frag) (x:V) (H:Hp) (n:Nat):Prop:=
 match x with
 |.str y=>y.length<=sizeLine/\n=y.length
 |.byt y=>y.size<=sizeLine/\n=y.size
 |.ref p=>(∃xs,RB K H p xs/\n=xs.length)\/∃xs,ED K H p xs/\n=xs.length
 |_=>False
theorem yL:TC X (.builtin "len") (λxs H Q=>∃x n,xs=[x]/\vT X.K x H n/\Q (.int n) H):=by
 intro a0 s a1 H xs us Q B r h;let(x,n,rfl,e,q):=h;let(u,rfl,N):=rE r;let Y:=eE;let Z:sizeLine=16777216:=sizeLine_eq;cases x with
 |str D=>
  let(t,rfl):=N;obtain⟨U,j⟩:D.length<=sizeLine/\n=D.length:=e;subst j;show len_str ⋯ (.int _,H,B.tok _,⟨_,rfl⟩,q)
 |byt D=>
  let(t,rfl):=N;obtain⟨U,j⟩:D.size<=sizeLine/\n=D.size:=e;subst j;show PySem.W.len_bytes ⋯ (.int _,H,B.tok _,⟨_,rfl⟩,q)
 |ref O=>
  cases N;let j:(∃xs,RB X.K H O xs/\n=xs.length)\/∃xs,ED X.K H O xs/\n=xs.length:=e;let(xs,J,j)||(xs,J,j):=j
  .subst j;let(W,L,pl,V):=B.list J;let F:=L.length;show Calls.call_len_list pl.isList (by simp only[pA];omega) (.int xs.length,H,B.tok _,⟨_,by simp only[pA];rw[F]⟩,q)
  .subst j;let(W,L,pl,V):=B.tuple J;let F:=L.length;show len_tuple pl (by simp only[pA];omega) (.int xs.length,H,B.tok _,⟨_,by simp only[pA];rw[F]⟩,q)
 |_=>show (show False from e).elim
end
structure IE (h:Heap) (x dx C:Addr) (mA:Str->Option Value):Prop where
 obj:h.get? x>(PySem.W.instObj C dx)
 ns:h.Ns1 dx mA
 ne:dx≠x
set_option tactic.hygienic true in
theorem R8 {h:Heap} {dx:Addr} {mA:Str->Option Value} (n:h.Ns1 dx mA):∃od,h.get? dx>od/\∀name,PySem.W.lookIn name od>(mA name):=by
 let(o,es,ep,ho,hd,hk,_,hm):=n;show(o,ho,λname=>?_);let e:=hm name;unfold nsFind findBy at e;rw[<-Array.find?_toList] at e;unfold PySem.W.lookIn;rw[hd];dsimp only
 split
 .rename_i y q;rw[q] at e;show congrArg some e
 .rename_i q;rw[q] at e;let a:es.toList.any (·.refKey)=false:=by
   rw[List.any_eq_false];intro y hy;let(z,t,hkey):=hk y (Array.mem_toList_iff.mp hy);simp[DictEntry.refKey,hkey]
  let a':¬es.toList.any (·.refKey)=true:=by rw[a];show oA
  rw[kA a'];show congrArg some e
theorem IE.look {h:Heap} {x B C:Addr} {D:Str->Option Value} (q:IE h x B C D):∃j,PySem.W.InstAt h x (PySem.W.instObj C B) C (some j)/\∀name,PySem.W.lookIn name j>(D name):=
 let ⟨j,ho,hl⟩:=R8 q.ns
 (j,(q.obj,rfl,rfl,ho),hl)
section
variable {prog:Program} {w:World} {A:Around} {E:Value->Shared->Prop} {s:Shared} {K:PySem.W.Frag} {x dx C f:Addr} {mA:Str->Option Value} {name:Str} {v:Value}
theorem S8 {B:Bool} {Q:Value->Shared->Prop} (X:K.In s.heap) (j:IE s.heap x dx C mA) (F:PySem.W.plainGet K C name=true) (J:PySem.W.hasDictIn K C=true)
  (D:PySem.W.findIn K (.ref C) name>none) (N:mA name>v) (O:PySem.W.handedIn v=true) (h:Q v {s with toks:=s.toks+1}):
  wpAny (model prog w) A (getAttr (.ref x) name B) Q E s:=by
 let(U,q,L):=j.look;show PySem.W.get_value X q (PySem.W.plainGet_of F).1 (PySem.W.findObj_own J D rfl (by rw[L,N])) O h
theorem T8 {pl:Sem Bool} {Q:Value×!Value->Shared->Prop} (X:K.In s.heap) (q:IE s.heap x dx C mA) (j:PySem.W.plainGet K C name=true)
  (D:PySem.W.findIn K (.ref C) name>(↑f)) (J:PySem.W.isFn K (.ref f)=true) (L:mA name=none) (h:Q (.ref f,[.ref x]) s):
  wpAny (model prog w) A (getMethod (.ref x) name pl) Q E s:=by
 let(N,B,F):=q.look;show PySem.W.method_fn X B (PySem.W.plainGet_of j).1 (PySem.W.plainGet_of j).2 D (ZA.mp J) (by change (PySem.W.lookIn name N).map (·.isSome)>false;rw[F,L];rfl) h
theorem U8 {ns:!Str} {Q:Unit->Shared->Prop} (X:K.In s.heap) (j:IE s.heap x dx C mA)
  (Y:PySem.W.findIn K (.ref C) "__setattr__">(some (.builtin "object.__setattr__"))) (W:PySem.W.plainOver K C=true) (Z:PySem.W.takerIn K C name>none) (U:PySem.W.hasDictIn K C=true)
  (a0:PySem.Within mA ns) (hsz:ns.length<=sizeLine)
  (h:∀h',IE h' x dx C (λF=>if F=name then some v else mA F)->Heap.SameBut dx s.heap h'->Q ⟨⟩ {s with heap:=h',toks:=s.toks+2}):
  wpAny (model prog w) A (setAttr (.ref x) name v) Q E s:=by
 let(a8,q,a6):=j.look;show PySem.W.set_plain X q Y (PySem.W.osa_open (s:={s with toks:=s.toks+1}) (r:=none) X q W Z λa2=>?_);let(a3,J,N):=PySem.W.any_some U;let a1:s.heap.get? x>(.ref C,some dx,.plain, #[]):=j.obj;show aA (qA (aA (aA (wpAny_loadPart a1 (aA (PySem.W.Looks.here (s:={s with toks:=s.toks+1}) (PySem.W.looks_clsIn X J) ?_))))));rw[N];show qA (a:=some dx) (aA (qA (aA ?_)));show wpAny_nsSet1 (s:={s with toks:=s.toks+1}) j.ns λh' B D=>?_;let(a7,a5,a4,V,O,L):=B.count (PySem.Within.cons name v a0);show aA (wpAny_lookBehind V (by rw[O];show pastItsLine_dict (cB L (by rw[OA];omega))) ?_);show qA (h _ ((D.2 _ (Ne.symm j.ne)).trans j.obj,B,j.ne) D)
theorem V8 {q:Result->Shared->Prop} {vs:!Value} {j:!(Str×Value)} (X:K.In s.heap) (F:PySem.W.makesIn K C=true)
  (D:PySem.W.findIn K (.ref C) "__init__">(↑f)) (B:PySem.W.typeIn K (.ref f)>(.type "function"))
  (h:codeAny (model prog w) (A.under (.builtin "type.__call__" ⟨.ref C::vs,j⟩)) (.call (.ref f) ⟨.ref (s.heap.objs.size+1)::vs,j⟩) (PySem.W.InitBack (s.heap.objs.size+1) q)
   {s with heap:=(s.heap.push PySem.W.emptyDict).push (PySem.W.instObj C s.heap.objs.size)}):
  codeAny (model prog w) A (.call (.ref C) ⟨vs,j⟩) q s:=by
 let(L,g,d,t,N):=s;show PySem.W.make_core (PySem.W.makes_of X F) (PySem.W.looks_findIn X D) (λJ=>PySem.W.bind_fn X J B) (.inl rfl) h
end
def wB (f:Str) (v:V):!(Str×V)->!(Str×V)
 |[]=>[(f,v)]
 |(g,x)::r=>if g=f then (g,v)::r else (g,x)::wB f v r
theorem DF (f g:Str) (v:V):∀fs:!(Str×V),(wB f v fs).lookup g=if g=f then some v else fs.lookup g
 |[]=>by
  change List.lookup g [(f,v)]=_;by_cases h:g=f
  .let hb:(g == f)=true:=ZA.mpr h;simp only[List.lookup,hb,vA h]
  .let hb:(g == f)=false:=beq_eq_false_iff_ne.mpr h;simp only[List.lookup,hb,kA h]
 |(k,x)::r=>by
  let ih:=DF f g v r;rw[show wB f v ((k,x)::r)=(if k=f then (k,v)::r else (k,x)::wB f v r) from rfl];by_cases hk:k=f
  .rw[vA hk];by_cases h:g=k
   .let hb:(g == k)=true:=ZA.mpr h;simp only[List.lookup,hb,vA (h.trans hk)]
   .let hb:(g == k)=false:=beq_eq_false_iff_ne.mpr h;simp only[List.lookup,hb,kA (λe:g=f=>h (e.trans hk.symm))]
  .rw[kA hk];by_cases h:g=k
   .let hb:(g == k)=true:=ZA.mpr h;simp only[List.lookup,hb,kA (λe:g=f=>hk (h.symm.trans e))]
   .let hb:(g == k)=false:=beq_eq_false_iff_ne.mpr h;simp only[List.lookup,hb];show ih
theorem wT (f:Str) (v:V):∀fs:!(Str×V),f∈(wB f v fs).map (·.1)/\∀g,g∈fs.map (·.1)->g∈(wB f v fs).map (·.1)
 |[]=>⟨by simp[wB],λg h=>by simp at h⟩
 |(k,x)::r=>by
  let(i1,i2):=wT f v r;rw[show wB f v ((k,x)::r)=(if k=f then (k,v)::r else (k,x)::wB f v r) from rfl];by_cases hk:k=f
  .rw[vA hk];subst hk;show⟨by simp,λg h=>by simpa using h⟩
  .rw[kA hk];show⟨?_,λg h=>?_⟩
   .rw[CA];show wA _ i1
   .rw[CA] at h ⊢;let e||e:=iA.mp h
    .show iA.mpr (.inl e)
    .show wA _ (i2 g e)
theorem fX (f:Str) (v:V):∀fs:!(Str×V),(wB f v fs).length<=fs.length+1
 |[]=>by simp[wB]
 |(k,x)::r=>by
  let ih:=fX f v r;rw[show wB f v ((k,x)::r)=(if k=f then (k,v)::r else (k,x)::wB f v r) from rfl];by_cases hk:k=f
  .rw[vA hk,OA,OA];omega
  .rw[kA hk,OA,OA];omega
theorem FC.some_of {v:V} {o:Option Value} (r:FC (some v) o):∃u,o>u/\CB v u:=by
 cases o with
 |none=>show (show False from r).elim
 |some u=>show(u,rfl,r)
theorem FC.none_of {o:Option Value} (r:FC none o):o=none:=by
 cases o with
 |none=>rfl
 |some u=>show (show False from r).elim
theorem W8 {v:V} {u:Value} (r:CB v u):PySem.W.handedIn u=true:=by
 cases v with
 |non=>cases (show u=Value.none from r);rfl
 |bl b=>cases (show u=Value.bool b from r);rfl
 |int i=>let(t,e):=(show ∃t,u=Value.int i t from r);cases e;rfl
 |str x=>let(t,e):=(show ∃t,u=Value.str x t from r);cases e;rfl
 |byt b=>let(t,e):=(show ∃t,u=Value.bytes b t from r);cases e;rfl
 |flt b=>let(t,e):=(show ∃t,u=Value.float b t from r);cases e;rfl
 |ref a=>cases (show u=Value.ref a from r);rfl
 |ty n=>cases (show u=Value.type n from r);rfl
section
variable {P:Program} {w:World} {H H':Hp} {h h':Heap} {a C dx:Addr} {fs fs':!(Str×V)}
theorem VR (B:GC P w H h) (e:H a>(.ins C dx fs)):∃j,IE h a dx C j/\(∀f,FC (fs.lookup f) (j f))/\PySem.Within j (fs.map (·.1))/\fs.length<=1000/\H dx>(.own a):=by
 let(d,F,ne,D,j,n,r,q):=(show LB P w H h a (.ins C dx fs) from B a _ e)
 show(j,(D,n,ne),r,q,F,d)
end
structure VC (K:PySem.W.Frag) (C:Addr):Prop where
 pg:PySem.W.plainGet K C Str.empty=true
 hd:PySem.W.hasDictIn K C=true
 po:PySem.W.plainOver K C=true
 sa:PySem.W.findIn K (.ref C) "__setattr__">(some (.builtin "object.__setattr__"))
theorem VC.get {K:PySem.W.Frag} {C:Addr} (c:VC K C) (f:Str):PySem.W.plainGet K C f=true:=c.pg
def xB (K:PySem.W.Frag) (C:Addr) (f:Str):Prop:=PySem.W.findIn K (.ref C) f>none
theorem xB.taker {K:PySem.W.Frag} {C:Addr} {f:Str} (n:xB K C f):PySem.W.takerIn K C f>none:=by
 unfold PySem.W.takerIn;rw[show PySem.W.findIn K (.ref C) f>none from n]
 rfl
structure JE (K:PySem.W.Frag) (C:Addr) (m:Str) (f:Addr):Prop where
 at_:PySem.W.findIn K (.ref C) m>(↑f)
 fn:PySem.W.isFn K (.ref f)=true
 kp:PySem.W.keepIn K (.ref f)=true
section
variable {X:Cx} {pins:!(Addr×Obj)} {σ:St} {H:Hp} {s:Shared} {a C dx:Addr} {fs:!(Str×V)} {f:Str} {v:V} {A:Around} {E:Value->Shared->Prop}
theorem X8 {D:Bool} {Q:Value->Shared->Prop} (j:rB X pins σ H s) (e:H a>(.ins C dx fs)) (c:VC X.K C) (n:xB X.K C f) (l:fs.lookup f>v)
  (h:∀u s',rB X pins σ H s'->CB v u->Q u s'):wpAny (model X.prog X.w) A (getAttr (.ref a) f D) Q E s:=by
 let(J,B,r,_,_,_):=VR j.hok e;let(u,F,q):=FC.some_of (v:=v) (o:=J f) (by rw[<-l];show r f);show S8 j.kIn B (c.get f) c.hd n F (W8 q) (h u _ (j.tok _) q)
theorem gX {m:Str} {g:Addr} {pl:Sem Bool} {Q:Value×!Value->Shared->Prop} (j:rB X pins σ H s) (e:H a>(.ins C dx fs)) (c:VC X.K C) (k:JE X.K C m g) (l:fs.lookup m=none)
  (h:Q (.ref g,[.ref a]) s):wpAny (model X.prog X.w) A (getMethod (.ref a) m pl) Q E s:=by
 let(D,q,r,_,_,_):=VR j.hok e;let B:D m=none:=FC.none_of (by rw[<-l];show r m);show T8 j.kIn q (c.get m) k.at_ k.fn B h
theorem Y8 {j:V} {u:Value} {Q:Unit->Shared->Prop} (B:rB X pins σ H s) (e:H a>(.ins C dx fs)) (c:VC X.K C) (n:xB X.K C f) (a3:fs.length < 1000) (a1:CB j u)
  (h:∀s',rB X pins σ (uB H a (.ins C dx (wB f j fs))) s'->Q ⟨⟩ s'):wpAny (model X.prog X.w) A (setAttr (.ref a) f u) Q E s:=by
 let(N,D,r,O,_,L):=VR B.hok e;let a0:(fs.map (·.1)).length<=sizeLine:=by rw[rA,sizeLine_eq];omega
 show U8 B.kIn D c.sa c.po n.taker c.hd O a0 λh' F a2=>h _ ?_;let Y:∃o,h'.get? dx>o:=let ⟨o,_,_,e',_⟩:=F.ns;⟨o,e'⟩
 show B.write (x:=a) (e:=dx) (by rw[e];show True.intro) (.inr L) (λU q W J=>(a2.2 U W).trans J) Y ?_;show(by rw[IB D.ne];show L,?_,D.ne,F.obj,_,F.ns,λg=>?_,λg Z=>?_)
 .have:=fX f j fs;omega
 .change FC ((wB f j fs).lookup g) (if g=f then some u else N g);rw[DF];by_cases q:g=f
  .rw[vA q,vA q];show a1
  .rw[kA q,kA q];show r g
 .by_cases q:g=f
  .rw[q];show (wT f j fs).1
  .show (wT f j fs).2 g (O g λJ=>Z ?_);change (if g=f then some u else N g)=none;rw[kA q];show J
theorem rB.made (B:rB X pins σ H s):rB X pins σ (uB (uB H s.heap.objs.size (.own (s.heap.objs.size+1))) (s.heap.objs.size+1) (.ins C s.heap.objs.size []))
  {s with heap:=(s.heap.push PySem.W.emptyDict).push (PySem.W.instObj C s.heap.objs.size)}:=by
 let j:(s.heap.push PySem.W.emptyDict).get? s.heap.objs.size>PySem.W.emptyDict:=jA s.heap rfl;let J:((s.heap.push PySem.W.emptyDict).push (PySem.W.instObj C s.heap.objs.size)).get? (s.heap.objs.size+1)>(PySem.W.instObj C s.heap.objs.size):=by
  have:=jA (s.heap.push PySem.W.emptyDict) (o:=PySem.W.instObj C s.heap.objs.size) rfl;rwa[Heap.size_push] at this
 let L:(s.heap.push PySem.W.emptyDict).Ns s.heap.objs.size (λο=>none):=(PySem.W.emptyDict, #[],_,j,rfl,(λe N=>absurd N (by simp)),λο=>rfl)
 let D:=B.laid (a:=s.heap.objs.size) (o:=.own (s.heap.objs.size+1)) (h':=s.heap.push PySem.W.emptyDict) (t':=s.toks) (λF u q=>cA _ q) (eA _) ⟨_,j⟩;show D.laid (a:=s.heap.objs.size+1) (o:=.ins C s.heap.objs.size []) (t':=s.toks) (λF u q=>cA _ q) (Nat.le_of_eq (Heap.size_push _ _)) ?_;let ne:s.heap.objs.size≠s.heap.objs.size+1:=uA (Nat.lt_succ_self _);show(by rw[IB ne,KB],Nat.zero_le _,ne,J,λο=>none,(Heap.Ns1.of_empty L).at λo q=>cA _ q,λο=>True.intro,λU O=>absurd rfl O)
theorem Z8 {prog:Program} {w:World} {env:Env} {e:Expr} {f:Str} {pos:Pos} {s:Shared} {Q:Value->Shared->Prop} (j:attributeBase e f env (eval e env)=eval e env)
  (h:wpAny (model prog w) A (eval e env) (λo q=>wpAny (model prog w) A (getAttr o f true) Q E q) E s):wpAny (model prog w) A (eval (.Attribute e f pos) env) Q E s:=
 Attribute_any_ h (by rw[arm_eval_Attribute,j])
end
def nM (K:PySem.W.Frag) (ta:TE) (f:Str):TE:=λσ H Q=>ta σ H λx H1=>∃a C dx fs v,x=.ref a/\H1 a>(.ins C dx fs)/\VC K C/\xB K C f/\fs.lookup f>v/\Q v H1
def oM (K:PySem.W.Frag) (ta tv:TE) (f:Str):TS:=λD σ H=>tv σ H λy H1=>ta σ H1 λx H2=>∃a C dx fs,x=.ref a/\H2 a>(.ins C dx fs)/\VC K C/\xB K C f/\fs.length < 1000/\
 D.nx σ (uB H2 a (.ins C dx (wB f y fs)))
section
variable {X:Cx} {o e value:Expr} {f:Str} {pos pos' tpos:Pos} {ta tv:TE}
theorem SB (O:PE X e ta) (N:attributeBase e f X.env (eval e X.env)=eval e X.env):PE X (.Attribute e f pos) (nM X.K ta f):=by
 intro U s Y H Q B h;show Z8 N (NB (O U s Y H _ B h) λu a0 zz=>?_);let(x,j,D,W,a,C,Z,fs,v,L,J,c,n,l,q):=zz;subst L;obtain rfl:u=Value.ref a:=W;show X8 D J c n l λa2 a1 F V=>(v,j,F,V,q)
theorem qC (V:PE X o ta) (Y:PE X value tv) (W:swapsWith value (some (.Attribute o f pos')) pos.line X.env=pure false):PS X (.Assign [.Attribute o f pos'] value pos) (oM X.K ta tv f):=by
 intro B s j H a4 F h;show plainObj_wpAny_Assign_Attribute (NB (Y B s j H _ F h) λu a3 ⟨a9,D,J,a2,q⟩=>NB (V B a3 j D _ J q) λZ a7 zz=>?_) W;let(x,a5,L,a1,a,C,a6,fs,U,O,c,n,l,a0):=zz;subst U;obtain rfl:Z=Value.ref a:=a1;show Y8 L O c n l a2 λa8 N=>(j,_,N,a0)
end
section
variable {X:Cx} {pins:!(Addr×Obj)} {σ:St} {H:Hp} {s:Shared} {A:Around} {E:Value->Shared->Prop} {Q:Value->Shared->Prop} {c:Value} {b:Bool}
inductive gD (K:PySem.W.Frag) (H:Hp):V->Value->Prop where
 |non:gD K H .non (.type "NoneType")
 |bl (x:Bool):gD K H (.bl x) (.type "bool")
 |int (i:Int):gD K H (.int i) (.type "int")
 |str (x:Str):gD K H (.str x) (.type "str")
 |flt (x:UInt64):gD K H (.flt x) (.type "float")
 |lst {a:Addr} {xs:!V} (e:H a>(.lst xs)):gD K H (.ref a) (.type "list")
 |frz {a:Addr} {o:Obj} {xs:!V} (e:H a>(.frz o (.lst xs))):gD K H (.ref a) (.type "list")
 |tup {a:Addr} {xs:!V} (e:H a>(.tup xs)):gD K H (.ref a) (.type "tuple")
 |dK {a:Addr} {kvs:!(Key×V)} (e:H a>(.dK kvs)):gD K H (.ref a) (.type "dict")
 |dT {a:Addr} {kvs:!(!Key×V)} (e:H a>(.dT kvs)):gD K H (.ref a) (.type "dict")
 |ins {a C dx:Addr} {fs:!(Str×V)} (e:H a>(.ins C dx fs)) (cl:VC K C) (ha:PySem.W.findIn K (.ref C) "__class__">(some (.builtin "object.__class__")))
  (hn:PySem.W.specialIn K (.builtin "object.__class__") "__get__">(some (.builtin "getset_descriptor.__get__"))) (htk:PySem.W.takesIn K (.builtin "object.__class__")>true)
  (hm:PySem.W.mroIn K C (.type "object")>true):gD K H (.ref a) (.ref C)
theorem b9 {x:V} {u t:Value} (B:rB X pins σ H s) (D:CB x u) (ty:gD X.K H x t) (e:PySem.W.kitOne X.K t c>b) (h:∀U,Q (.bool b) {s with toks:=U}):
  wpAny (model X.prog X.w) A (call (.builtin "isinstance") [u,c]) Q E s:=by
 cases ty with
 |non=>cases (show u=Value.none from D);show PySem.W.kia_one PySem.W.kitx_none B.kIn True.intro e nofun h
 |bl F=>cases (show u=Value.bool F from D);show PySem.W.kia_one PySem.W.kitx_bool B.kIn True.intro e nofun h
 |int i=>let(t,q):=(show ∃t,u=Value.int i t from D);cases q;show PySem.W.kia_one PySem.W.kitx_int B.kIn True.intro e nofun h
 |str F=>let(t,q):=(show ∃t,u=Value.str F t from D);cases q;show PySem.W.kia_one PySem.W.kitx_str B.kIn True.intro e nofun h
 |flt F=>let(t,q):=(show ∃t,u=Value.float F t from D);cases q;show PySem.W.kia_one PySem.W.kitx_float B.kIn True.intro e nofun h
 |@lst a xs ea=>
  cases (show u=Value.ref a from D);let(_,_,n,_,h1):=(show LB X.prog X.w H s.heap a (.lst xs) from B.hok a _ ea)
  show PySem.W.kia_one PySem.W.kitx_list B.kIn (_,h1,rfl) e nofun h
 |@frz a ob xs ea=>
  cases (show u=Value.ref a from D);let(_,_,_,n,_,h1):=(show LB X.prog X.w H s.heap a (.frz ob (.lst xs)) from B.hok a _ ea)
  show PySem.W.kia_one PySem.W.kitx_list B.kIn (_,h1,rfl) e nofun h
 |@tup a xs ea=>
  cases (show u=Value.ref a from D);let(_,_,_,J):=(show LB X.prog X.w H s.heap a (.tup xs) from B.hok a _ ea)
  let(o,h1,h2,_):=J;show PySem.W.kia_one PySem.W.kitx_tuple B.kIn (o,h1,h2) e nofun h
 |@dK a kvs ea=>
  cases (show u=Value.ref a from D);let(_,_,vs,_,J):=(show LB X.prog X.w H s.heap a (.dK kvs) from B.hok a _ ea)
  let(o,O,ep,h1,h2,_):=J;show PySem.W.kia_one PySem.W.kitx_dict B.kIn (o,h1,h2.1) e nofun h
 |@dT a kvs ea=>
  cases (show u=Value.ref a from D);let(_,_,xs,_,o,O,ep,h1,h2,_):=(show LB X.prog X.w H s.heap a (.dT kvs) from B.hok a _ ea)
  show PySem.W.kia_one PySem.W.kitx_dict B.kIn (o,h1,h2.1) e nofun h
 |@ins a C dx fs ea cl ha hn htk hm=>
  cases (show u=Value.ref a from D);let(W,N,_):=VR B.hok ea;let(Y,L,_):=N.look;show PySem.W.kia_one (PySem.W.kitx_own (cl.get _) cl.hd ha hn htk hm) B.kIn L e nofun h
end
structure YB (k:Nat) (A:Around):Prop where
 hd:A.handled=none
 dp:A.depth+3 * k+5 < recursionLimit
 un:A.units+16 * k+200 < cLine
theorem YB.mono {j k:Nat} {A:Around} (r:YB k A) (h:j<=k):YB j A:=(r.hd,by have:=r.dp;omega,by have:=r.un;omega)
theorem YB.deeper {k:Nat} {A:Around} (r:YB (k+1) A) (env:Env):YB k (A.deeper env):=
 (r.hd,by have:=r.dp;change A.depth+1+3 * k+5 < _;omega,by have:=r.un;change A.units+3+16 * k+200 < _;omega)
theorem c9 {A:Around} {C:Addr} {us:!Value} {j:!(Str×Value)}:(A.under (.builtin "type.__call__" ⟨.ref C::us,j⟩)).depth=A.depth+1:=by
 first|rfl|simp[Around.under,Code.weight,Code.isCreation,Code.isGuard,Code.isCaller,Code.frames,Code.isFrame,guardIds]
theorem d9 {A:Around} {C:Addr} {us:!Value} {j:!(Str×Value)}:(A.under (.builtin "type.__call__" ⟨.ref C::us,j⟩)).units=A.units+1:=by
 first|rfl|simp[Around.under,Code.cUnits,Code.frames,Code.isFrame]
theorem YB.make {k:Nat} {A:Around} (r:YB (k+1) A) (C:Addr) (us:!Value) (j:!(Str×Value)):YB k (A.under (.builtin "type.__call__" ⟨.ref C::us,j⟩)):=
 (r.hd,by have:=r.dp;rw[c9];omega,by have:=r.un;rw[d9];omega)
theorem YB.depth {k:Nat} {A:Around} (r:YB k A):A.depth < recursionLimit:=by have:=r.dp;omega
theorem YB.units {k:Nat} {A:Around} (r:YB k A):A.units+64 < cLine:=by have:=r.un;omega
def tNil:TA:=λο H Q=>Q [] H
def FH (ta:TE) (tr:TA):TA:=λσ H Q=>ta σ H λx H1=>tr σ H1 λxs H2=>Q (x::xs) H2
section
variable {X:Cx} {e:Expr} {es:!Expr} {te:TE} {t:TA} {pos:Pos}
theorem AB:PA X [] tNil:=λο ο ο ο H Q I h=>Calls.spliced_nil ([],H,I,.nil,h)
theorem qB (N:PE X e te) (O:PA X es t) (U:starEach (e::es) X.env=(false,eval e X.env)::starEach es X.env:=by rfl):PA X (e::es) (FH te t):=by
 intro pos j s q H Q F h;rw[U];change wpAny _ _ (spliced ((false,eval e X.env)::backTo pos (starEach es X.env))) _ _ s;show Calls.spliced_cons (NB (N j s q H _ F h) λu a0 zz=>?_);let(x,B,J,Y,V):=zz;show NB (O pos j a0 q B _ J V) λus a1 ⟨xs,D,L,Z,W⟩=>(x::xs,D,L,.cons Y Z,W)
def pM (t:TA):TE:=λσ H Q=>t σ H λxs H1=>xs.length<=sizeLine/\∀p,H1 p=none->Q (.ref p) (uB H1 p (.tup xs))
def qM (t:TA):TE:=λσ H Q=>t σ H λxs H1=>xs.length<=sizeLine/\∀p,H1 p=none->Q (.ref p) (uB H1 p (.lst xs))
theorem QF {x1} (h:PA X es t):PE X (.Tuple es x1 pos) (pM t):=by
 intro O s U H Q J N;show wpAny_Tuple_spliced (NB (h pos O s U H _ J N) λus j ⟨xs,B,D,r,F,q⟩=>⟨by rw[<-r.length];show F,?_⟩);let L:B j.heap.objs.size=none:=D.hok.fresh (eA _);show(.ref j.heap.objs.size,uB B j.heap.objs.size (.tup xs),D.laid (t':=j.toks) (λV u e=>cA _ e) (eA _) ?_,rfl,q _ L);show(F,us,r,(_,jA _ rfl,rfl,_,rfl))
theorem AD (h:PA X es t):PE X (.List es pos) (qM t):=by
 intro O s U H Q J N;show wpAny_List_spliced (NB (h pos O s U H _ J N) λus j ⟨xs,B,D,r,F,q⟩=>⟨by rw[<-r.length];show F,?_⟩);let L:B j.heap.objs.size=none:=D.hok.fresh (eA _);show(.ref j.heap.objs.size,uB B j.heap.objs.size (.lst xs),D.laid (t':=j.toks) (λV u e=>cA _ e) (eA _) ?_,rfl,q _ L);show(F,us,0,r,jA _ rfl)
end
abbrev Sp:=!V->Hp->VK->XK->Prop
abbrev CXT:=!Env->Hp->Shared->XK->Value->Shared->Prop
structure fE (P:Program) (w:World) (K:PySem.W.Frag) (mg:Str->Option Value) (base:Heap) (A:Around) (outer:!Env) (s:Shared) (H:Hp):Prop where
 frames:A.frames>outer
 mod:Mod K mg base
 bs:∀b o,base.get? b>o->s.heap.get? b>o/\H b=none
 bsz:base.objs.size<=s.heap.objs.size
 funs:s.heap.FunFrames base outer
 frf:∀b∈mC outer,H b=none
 hok:GC P w H s.heap
 bare:AllBare s.gens
def CE (outer:!Env) (P:Program) (w:World) (H:Hp) (s:Shared) (Q:VK) (u:Value) (s':Shared):Prop:=
 ∃v H',s'.os=s.os/\AllBare s'.gens/\Un (mC outer) [] H H' s.heap s'.heap/\GC P w H' s'.heap/\CB v u/\Q v H'
def CR (CX:CXT) (outer:!Env) (P:Program) (w:World) (H:Hp) (s:Shared) (Q:VK) (E:XK) (r:Result) (s':Shared):Prop:=
 match r with
 |.ok (.ret u)=>CE outer P w H s Q u s'
 |.ok _=>False
 |.error e=>CX outer H s E e s'
structure sD (P:Program) (w:World) (K:PySem.W.Frag) (mg:Str->Option Value) (base:Heap) (CX:CXT) (k:Nat) (f:Addr) (fd:FuncData) (ps:!Str) (sp:Sp):Prop where
 len:∀vs H Q E,sp vs H Q E->vs.length=ps.length
 run:∀(A:Around) (outer:!Env) (s:Shared) (H:Hp) (args:Args) (us:!Value) (vs:!V) (Q:VK) (E:XK),YB k A->fE P w K mg base A outer s H->BindsTo s fd args (ps.zip us)->yB vs us->sp vs H Q E->
  codeAny (model P w) A (.call (.ref f) args) (CR CX outer P w H s Q E) s
theorem fE.make {P:Program} {w:World} {K:PySem.W.Frag} {mg:Str->Option Value} {base:Heap} {A:Around} {j:!Env} {s:Shared} {H:Hp} (e:fE P w K mg base A j s H) (C:Addr) (us:!Value) (q:!(Str×Value)):
 fE P w K mg base (A.under (.builtin "type.__call__" ⟨.ref C::us,q⟩)) j s H:=(by first|exact e.frames|(simpa[Around.under,Code.envs,Code.isFrame,pushEnvs] using e.frames),e.mod,e.bs,e.bsz,e.funs,e.frf,e.hok,e.bare)
section
variable {X:Cx} {pins:!(Addr×Obj)} {σ:St} {H:Hp} {s s':Shared}
theorem rB.env0 (I:rB X pins σ H s):fE X.prog X.w X.K X.mg X.base X.A X.stack s H:=
 (I.ok.frames,I.ok.mod,I.bs,cB I.ok.bsz I.sz,I.stack,I.stkFree,I.hok,I.bare)
theorem rB.after {Q:VK} {u:Value} (B:rB X pins σ H s) (h:CE X.stack X.prog X.w H s Q u s'):EP X pins σ Q u s':=by
 let(v,j,L,D,un,J,r,q):=h;let(F,g,d,t,N):=s';obtain rfl:N=s.os:=L;show(v,j,B.call (h':=F) (g':=g) (d':=d) (t':=t) (ch:=[]) un J D (λU O=>absurd O (by simp)),r,q)
end
def iC (K:PySem.W.Frag) (fd:FuncData) (ps:!Str) (ds:!Value):Prop:=
 ∀(s:Shared) (us:!Value),K.In s.heap->(us++ds).length=ps.length->BindsTo s fd ⟨us,[]⟩ (ps.zip (us++ds))
theorem iC.all {K:PySem.W.Frag} {q:FuncData} {j:!Str} (h:∀us:!Value,us.length=j.length->bindArgs q ⟨us,[]⟩=pure (j.zip us)):iC K q j []:=λs us ο B=>by
 rw[List.append_nil] at B ⊢;show .of_eq (h us B)
section
variable {X:Cx} {CX:CXT} {k:Nat} {f C:Addr} {fd:FuncData} {ps:!Str} {sp:Sp} {dvs:!V} {ds:!Value} {E:XK} {x m:Str} {p pos apos:Pos} {e o:Expr} {es:!Expr} {ta:TE} {t:TA}
structure Mk (K:PySem.W.Frag) (C f:Addr):Prop where
 makes:PySem.W.makesIn K C=true
 init:PySem.W.findIn K (.ref C) "__init__">(↑f)
 fn:PySem.W.isFn K (.ref f)=true
 kp:PySem.W.keepIn K (.ref C)=true
end
section
variable {X:Cx} {CX:CXT} {k:Nat} {f C:Addr} {fd:FuncData} {ps ks:!Str} {sp:Sp} {E:XK} {x m:Str} {p pos apos kpos:Pos} {e o:Expr} {es:!Expr} {kws:!Keyword} {te ta:TE} {t tk:TA} {nm:Option Str}
variable {g:!Value->!Value->!Value} {gV:!V->!V->!V}
end
structure mB (N P:!Str) (sc:Scope):Prop where
 kind:sc.kind=.function
 co:sc.isCoroutine=false
 gen:sc.isGenerator=false
 nd:N.Nodup
 pre:N.take P.length=P
 par:∀x∈P,sc.names.lookup x>.local\/sc.names.lookup x>.cell
 nofree:∀y∈sc.names,y.2≠.free
theorem hX {kindOf:Str->Option NameKind} {x:Str}:∀{binds:!(Str×Value)} {m:Str->Option Value},(∀v,(x,v)∉binds)->bindL kindOf binds m x=m x
 |[],_,_=>rfl
 |(n,v)::r,m,h=>by
  unfold bindL;rw[hX λw hw=>h w (wA _ hw)]
  split
  .have:x≠n:=by rintro rfl;show h v zA
   simp[this]
  .rfl
theorem iX {kindOf:Str->Option NameKind} {x:Str}:∀{binds:!(Str×Value)} {m:Str->Option Value},(∀v,(x,v)∉binds)->bindC kindOf binds m x=m x
 |[],_,_=>rfl
 |(n,v)::r,m,h=>by
  unfold bindC;rw[iX λw hw=>h w (wA _ hw)]
  split
  .rfl
  .have:x≠n:=by rintro rfl;show h v zA
   simp[this]
theorem jX {kindOf:Str->Option NameKind} {x:Str} {v:Value}:∀{P:!Str} {vs:!Value} {i:Nat} {m:Str->Option Value},P.Nodup->P[i]?>x->vs[i]?>v->kindOf x>.local->
  bindL kindOf (P.zip vs) m x>v
 |[],_,_,_,_,h,_,_=>by simp at h
 |_::_,[],_,_,_,_,h,_=>by simp at h
 |p::P,w::vs,0,m,nd,h1,h2,hk=>by
  simp at h1 h2;subst h1;subst h2;change bindL kindOf ((p,w)::P.zip vs) m p=_;unfold bindL;rw[hX λv hv=>(List.nodup_cons.mp nd).1 (List.of_mem_zip hv).1,vA hk];simp
 |p::P,w::vs,i+1,m,nd,h1,h2,hk=>by
  change bindL kindOf ((p,w)::P.zip vs) m x=_;unfold bindL;show jX (i:=i) (List.nodup_cons.mp nd).2 (by simpa using h1) (by simpa using h2) hk
theorem kX {kindOf:Str->Option NameKind} {x:Str} {v:Value}:∀{P:!Str} {vs:!Value} {i:Nat} {m:Str->Option Value},P.Nodup->P[i]?>x->vs[i]?>v->kindOf x≠some .local->
  bindC kindOf (P.zip vs) m x>v
 |[],_,_,_,_,h,_,_=>by simp at h
 |_::_,[],_,_,_,_,h,_=>by simp at h
 |p::P,w::vs,0,m,nd,h1,h2,hk=>by
  simp at h1 h2;subst h1;subst h2;change bindC kindOf ((p,w)::P.zip vs) m p=_;unfold bindC;rw[iX λv hv=>(List.nodup_cons.mp nd).1 (List.of_mem_zip hv).1,kA hk];simp
 |p::P,w::vs,i+1,m,nd,h1,h2,hk=>by
  change bindC kindOf ((p,w)::P.zip vs) m x=_;unfold bindC;show kX (i:=i) (List.nodup_cons.mp nd).2 (by simpa using h1) (by simpa using h2) hk
def nC (N:!Str) (vs:!V):St:=vs.map some++List.replicate (N.length - vs.length) none
def rC (CX:CXT) (P:Program) (w:World) (K:PySem.W.Frag) (mg:Str->Option Value) (base:Heap) (N:!Str) (qual:Str) (scope:Scope) (f:Addr) (cd:Value) (A:Around) (outer:!Env) (s:Shared) (H:Hp) (E:XK):Cx where
 prog:=P
 w:=w
 K:=K
 mg:=mg
 base:=base
 A:=A.deeper (envOfC qual scope s.heap.objs.size f cd)
 N:=N
 s₀:=s
 H₀:=H
 env:=envOfC qual scope s.heap.objs.size f cd
 outer:=outer
 stack:=envOfC qual scope s.heap.objs.size f cd::outer
 ex:=[]
 calm:=true
 fn:=λο=>true
 pn:=[]
 xe:=λe s'=>wpAny (model P w) (A.deeper (envOfC qual scope s.heap.objs.size f cd)) (leaving (envOfC qual scope s.heap.objs.size f cd) e) (λο s''=>CX outer H s E e s'') (λe' s''=>CX outer H s E e' s'') s'
theorem lX {j:Scope} {n:Nat} {x:Str} (h:j.names.lookup x>.cell):∃c,(cellsFrom n j.names []).lookup x>c:=by
 let q:=PySem.W.cellsFrom_some j.names n [] (.inl h);show Option.isSome_iff_exists.mp q
theorem mX {CX:CXT} {P:Program} {w:World} {K:PySem.W.Frag} {mg:Str->Option Value} {base:Heap} {N J:!Str} {Y:Str} {scope:Scope} {f:Addr} {U:Value} {A:Around} {a0:!Env} {s a4:Shared} {H:Hp} {E:XK} {us:!Value} {vs:!V}
  (S:mB N J scope) (a6:A.handled=none) (B:fE P w K mg base A a0 s H) (a9:vs.length=J.length) (r:yB vs us)
  (x:InCallC s s.heap.objs.size (bindL (envOfC Y scope s.heap.objs.size f U).kindOf (J.zip us) λο=>none) (cellsFrom (s.heap.objs.size+1) scope.names []) (bindC (envOfC Y scope s.heap.objs.size f U).kindOf (J.zip us) λο=>none) a4):
  rB (rC CX P w K mg base N Y scope f U A a0 s H E) [] (nC N vs) H a4:=by
 let ab:J.length<=N.length:=by have:=congrArg List.length S.pre;rw[List.length_take] at this;omega
 let(h1,ac,rfl,a1):=x.done;let Z:∀D:Addr,D∉(rC CX P w K mg base N Y scope f U A a0 s H E).ex:=λD L=>absurd (show D∈([]:!Addr) from L) (by simp);show((B.mod,S.kind,rfl,rfl,eA _,λj L c h1 h2=>?_,λj F=>?_,λj c ο h=>?_,λο=>a6,Around.frames_deeper B.frames,.inr ⟨rfl,rfl⟩,λD L=>absurd L (Z D),B.bs,B.bsz,λD ο ο=>Z D,λD L=>absurd L (Z D),B.funs,B.frf),
  rfl,B.bare,Un.kept a1,(_,x.toInCall.ns,λi j v h1 h2 h3=>?_),λj c h=>⟨_,x.cell j c h⟩,B.hok.fresh (eA _),λj c h=>?_,λa7 O=>absurd (show a7∈([]:!(Addr×Obj)) from O) (by simp),B.hok.kept a1,?_)
 .show name_of_addr x.apart (PySem.mem_of_lookup h1) (PySem.mem_of_lookup h2)
 .let F:scope.names.lookup j>.cell\/scope.names.lookup j>.free:=F;let F||F:=F
  .show lX F
  .show absurd rfl (S.nofree _ (PySem.mem_of_lookup F))
 .show Nat.le_of_lt (x.above j c (PySem.mem_of_lookup h))
 .let W:i < vs.length:=by
   unfold nC at h2;by_cases W:i < vs.length
   .show W
   .rw[List.getElem?_append_right (by simpa using W)] at h2;rw[List.getElem?_replicate] at h2
    split at h2<;>cases h2
  let a5:vs[i]?>v:=by
   unfold nC at h2;rw[List.getElem?_append_left (by simpa using W),RA] at h2;cases e:vs[i]? with
   |none=>rw[e] at h2;cases h2
   |some a=>rw[e] at h2;cases h2;rfl
  let(u,a2,a8):=r.get a5;let O:J[i]?>j:=by
   rw[<-S.pre,List.getElem?_take_of_lt ⋯];show h1
  let a3:J.Nodup:=by rw[<-S.pre];show S.nd.sublist (List.take_sublist _ _)
  show(u,a8,?_);let k||k:=S.par j (List.mem_of_getElem? O)
  .show .inl ⟨k,jX a3 O a2 k⟩
  .let(c,e):=lX (n:=s.heap.objs.size+1) k;show .inr (.inl k,c,e,?_);let q:=x.cell j c e;rw[kX a3 O a2 (by change scope.names.lookup j≠_;rw[k];decide)] at q;show q
 .show B.hok.fresh (Nat.le_of_lt (x.above j c (PySem.mem_of_lookup h)))
 .unfold nC;change _=N.length;rw[HA,rA,yA];omega
theorem xT {CX:CXT} {P:Program} {w:World} {K:PySem.W.Frag} {mg:Str->Option Value} {base:Heap} {k:Nat} {f:Addr} {name F:Str} {ab:Arguments} {Z:!Stmt} {scope:Scope} {a6 kV a7 ac D a5 c0:Value} {a4 c1:Option Addr}
  {c2:Array (Option Value)} {N U:!Str} {sp:Sp} (bm:K.lookup f>(c0,c1,.func (PySem.W.fnOf name F ab Z scope a6 kV a7 ac a4 D a5),c2)) (b3:PySem.W.codeIn K D F=true) (S:mB N U scope)
  (len:∀vs H Q E,sp vs H Q E->vs.length=U.length)
  (b2:∀(A:Around) (L:!Env) (s:Shared) (H:Hp) (vs:!V) (Q:VK) (E:XK),YB k (A.deeper (envOfC F scope s.heap.objs.size f D))->sp vs H Q E->
   ∃t,DD (rC CX P w K mg base N F scope f D A L s H E) Z t/\t {nx:=λο j=>Q .non j,rt:=Q} (nC N vs) H):
  sD P w K mg base CX (k+1) f (PySem.W.fnOf name F ab Z scope a6 kV a7 ac a4 D a5) U sp:=by
 show⟨len,λA L s H args us vs Q E a0 O b1 r a9=>?_⟩;let bb:=len _ _ _ _ a9;let a3:K.In s.heap:=O.mod.kin.keeps λY o e=>(O.bs Y o e).1;let bl:s.heap.NoLimit:=O.mod.nolimit.keeps λY o e=>(O.bs Y o e).1;let b5:∀a2∈U.zip us,scope.names.lookup a2.1>.local\/(scope.names.lookup a2.1>.cell/\((cellsFrom (s.heap.objs.size+1) scope.names []).lookup a2.1).isSome=true):=λ⟨n,v⟩ be=>by
  let q||q:=S.par n (List.of_mem_zip be).1
  .show .inl q
  .show .inr ⟨q,PySem.W.cellsFrom_some _ _ _ (.inl q)⟩
 show codeAny_call_function a0.depth (a3 _ _ bm) rfl S.co S.gen rfl (PySem.W.codeRec_of a3 b3) (b1 _ _ _ _ ?_);show wpAny_newFunctionEnv_cells S.kind b5 λenv b4 ad x=>?_;subst b4;show⟨bl.keeps x.toInCall.keep,codeAny_func ?_⟩;let(t,bd,bc):=b2 A L s H vs Q E (a0.deeper _) a9;let ah:rB (rC CX P w K mg base N F scope f D A L s H E) [] (nC N vs) H ad:=mX S a0.hd O bb r x;show EA (bd [] ad (nC N vs) H _ ah bc) (λap s' J=>?_) λe s' J=>J;let a8:∀{W:St} {j:Hp} {v:V} {u:Value},rB (rC CX P w K mg base N F scope f D A L s H E) [] W j s'->CB v u->Q v j->CE L P w H s Q u s':=
  λ{W j v u} B a1 q=>(v,j,B.os,B.bare,B.base,B.hok,a1,q)
 cases ap with
 |ret u=>
  let(v,W,j,B,a1,q):=J;show a8 B a1 q
 |next=>
  let(W,j,B,q):=J;show a8 (v:=V.non) (u:=Value.none) B rfl q
 |brk=>
  let(_,_,_,q):=J;show False.elim q
 |cont=>
  let(_,_,_,q):=J;show False.elim q
section
variable {X:Cx} {x:Str} {p pos:Pos} {e:Expr} {es:!Expr} {t:TA} {id T:String} {r:!V->Hp->VK->Prop}
def yT (r:!V->Hp->VK->Prop) (t:TA):TE:=λσ H Q=>t σ H λvs H1=>r vs H1 Q
theorem kD (L:TC X (.builtin id) r) (U:Gl X x) (V:X.mg x=none) (Z:bootBuiltins x>(.builtin id)) (J:PA X (e::es) t) (W:x≠"__name__":=by decide) (N:(x == ("__debug__":Str))=false:=by decide)
  (O:starEach (e::es) X.env=(false,eval e X.env)::starEach es X.env:=by rfl) (Y:(backTo pos (starEach es X.env)).any (·.1)=false:=by rfl):PE X (.Call (.Name x p) (e::es) [] pos) (yT r t):=by
 intro q s B H Q j h;show aB (UL j U V Z ?_ W N);show PyProof.Rows.callWith_builtin1 (NB (J pos q s B H _ j h) λus a2 ⟨vs,D,F,a1,a0⟩=>L q a2 B D vs us Q F a1 a0) O Y
theorem zT (L:TC X (.type T) r) (U:Gl X x) (V:X.mg x=none) (Z:bootBuiltins x>(.type T)) (J:PA X (e::es) t) (W:x≠"__name__":=by decide) (N:(x == ("__debug__":Str))=false:=by decide)
  (O:starEach (e::es) X.env=(false,eval e X.env)::starEach es X.env:=by rfl) (Y:(backTo pos (starEach es X.env)).any (·.1)=false:=by rfl):PE X (.Call (.Name x p) (e::es) [] pos) (yT r t):=by
 intro q s B H Q j h;show aB (UL j U V Z ?_ W N);show PyProof.Rows.callWith_type1 (NB (J pos q s B H _ j h) λus a2 ⟨vs,D,F,a1,a0⟩=>L q a2 B D vs us Q F a1 a0) O Y
end
end L2
namespace HT
open PySem PyProof.Rows
section
open PySem.SeqAt
open PySem.AutoSeq1 (wpAny_loadPart')
open PySem.MeetsSeq PySem.MeetsSeq2 PySem.MeetsSeq3
end
section
variable {prog:Program} {w:World} {A:Around} {E:Value->Shared->Prop} {s:Shared}
theorem e9 {t q:Addr} {vs j:!Value} {Q:Value->Shared->Prop} (a0:IsTup s.heap t vs.toArray) (Z:IsTup s.heap q j.toArray) (V:vs≠[])
  (h1:j=[]->Q (.ref t) s) (h2:j≠[]->Q (.ref s.heap.objs.size) {s with heap:=s.heap.push {cls:=.type "tuple",data:=.seq (vs++j).toArray}})
  (hsz:vs.length+j.length<=sizeLine):wpAny (model prog w) A (binaryOp .Add (.ref t) (.ref q)) Q E s:=by
 let((cls,dd,data,sl),B,L,n,O):=id a0;let((a1,J,a2,Y),D,N,W,U):=id Z;simp only at L O N U;subst L O N U;let e:vs.toArray++j.toArray=(vs++j).toArray:=by simp
 by_cases F:j=[]
 .show concat_meets (_,B,rfl) (_,D,rfl) noFill_tuple_add seq_tuple_add PySem.F.slot_tuple_add PySem.F.entry_tuple_add (PySem.F.args_tuple_add_2 _ _)
   (tuple_addW1 t q vs.toArray j.toArray n W dd J sl Y (by simpa using V) (by simp[F])) (B,D,h1 F)
 .show concat_meets (_,B,rfl) (_,D,rfl) noFill_tuple_add seq_tuple_add PySem.F.slot_tuple_add PySem.F.entry_tuple_add (PySem.F.args_tuple_add_2 _ _)
   (tuple_addW2 t q vs.toArray j.toArray n W dd J sl Y (by simpa using V) (by simpa using F) (by rw[pA,pA];show hsz)) (B,D,?_)
  rw[e];show h2 F
def AT (n d:Nat):Option Int->Nat
 |none=>d
 |some v=>if v < 0 then (v+(n:Int)).toNat else min v.toNat n
end
end HT
namespace L2
open PySem PySem.Spec PyProof.Rows
abbrev TO:=St->Hp->(Option Int->Hp->Prop)->Prop
section
variable {X:Cx} {e:Expr} {te:TE} {lo hi:Option Expr} {tl th:TO} {pos p2:Pos}
def SlR (X:Cx) (r:V->Option Int->Option Int->Hp->VK->Prop):Prop:=
 ∀(pins:!(Addr×Obj)) (s:Shared) (σ:St) (H:Hp) (x:V) (v vl vu:Value) (lo hi:Option Int) (sl:Addr) (Q:VK),rB X pins σ H s->CB x v->s.heap.IsSliceOf sl vl vu .none->IsPart vl lo->IsPart vu hi->r x lo hi H Q->
  ∃T id,typeLookup (.type T) "__getitem__"=pure (some (.builtin id))/\s.TypeIs v T/\wpAny (model X.prog X.w) X.A (getItem v (.ref sl)) (EP X pins σ Q) X.xe s
def CT (xs:!V) (lo hi:Option Int):!V:=(xs.drop (HT.AT xs.length 0 lo)).take (HT.AT xs.length xs.length hi - HT.AT xs.length 0 lo)
def GH (K:PySem.W.Frag):R2:=λx y H Q=>∃a b xs ys,x=.ref a/\y=.ref b/\ED K H a xs/\ED K H b ys/\xs≠[]/\xs.length+ys.length<=sizeLine/\
 (ys=[]->Q (.ref a) H)/\(ys≠[]->∀p,H p=none->Q (.ref p) (uB H p (.tup (xs++ys))))
theorem yB.nil_iff {xs:!V} {us:!Value} (r:yB xs us):us=[]↔xs=[]:=by
 cases r with
 |nil=>simp
 |cons _ _=>simp
theorem nX:zD X (binaryOp .Add) (GH X.K):=by
 intro a6 s a8 H x a7 v u Q j a0 a1 h;let(a,L,xs,a2,rfl,rfl,N,O,U,J,Y,Z):=h;cases a0;cases a1;let(a3,F,V,_):=j.tuple N;let(a4,D,W,_):=j.tuple O;show HT.e9 V W (λB=>U (F.nil_iff.mp B)) (λB=>(.ref a,H,j,rfl,Y (D.nil_iff.mp B))) (λB=>?_) (by rw[<-F.length,<-D.length];show J);show(.ref s.heap.objs.size,_,j.laid (t':=s.toks) (o:=.tup (xs++a2)) (λL a5 q=>cA _ q) (eA _) ?_,rfl,Z (λw=>B (D.nil_iff.mpr w)) _ (j.hok.fresh (eA _)));show(by rw[HA];show J,_,F.append D,IsTup.new _ _)
end
def gJ (n:Nat) (i:Int):Option Nat:=if 0<=i then (if i < n then some i.toNat else none) else if -(n:Int)<=i then some (i+n).toNat else none
def tD {α:Type} (xs:!α) (i:Int):Option α:=(gJ xs.length i).bind λj=>xs[j]?
theorem oX {n:Nat} {i:Int} {j:Nat} (h:gJ n i>j):seqIndex? i n>j/\j < n/\ -(n:Int)<=i/\i < n:=by
 unfold gJ at h;by_cases h0:0<=i
 .rw[vA h0] at h;by_cases h1:i < n
  .rw[vA h1] at h;let e:i.toNat=j:=lA h;show(by rw[seqIndex_of h0 h1,e],⋯,⋯,h1)
  .rw[kA h1] at h;cases h
 .rw[kA h0] at h;by_cases h1: -(n:Int)<=i
  .rw[vA h1] at h;let e:(i+n).toNat=j:=lA h;show(by rw[seqIndex_neg ⋯ h1,e],⋯,h1,⋯)
  .rw[kA h1] at h;cases h
theorem pX {q:Type} {xs:!q} {i:Int} {v:q} (h:tD xs i>v):∃j,seqIndex? i xs.length>j/\xs[j]?>v/\j < xs.length/\ -(xs.length:Int)<=i/\i < xs.length:=by
 unfold tD at h;cases e:gJ xs.length i with
 |none=>rw[e] at h;cases h
 |some j=>
  rw[e] at h;let(h1,h2,h3,B):=oX e;show(j,h1,h,h2,h3,B)
theorem XE {q:Type} {xs:!q} {j:Nat} {v:q} (h:xs[j]?>v):tD xs (j:Int)>v:=by
 let B:j < xs.length:=(FA.mp h).1;let e:gJ xs.length (j:Int)>j:=by
  unfold gJ;rw[vA ⋯,vA ⋯];simp
 unfold tD;rw[e];show h
def EG (b:Expr):Prop:=∀o i,subscripted b false o i=operate [o,i] (getItem o i)
def nG (X:Cx) (r:R2):Prop:=
 ∀(value slice:Expr) (pins:!(Addr×Obj)) (s:Shared) (σ:St) (H:Hp) (x y:V) (v u:Value) (Q:VK),rB X pins σ H s->CB x v->CB y u->r x y H Q->
  subscripted slice false v u=operate [v,u] (getItem v u)->wpAny (model X.prog X.w) X.A (subscriptTail value slice v u) (EP X pins σ Q) X.xe s
def f9 (X:Cx) (id:String) (r:V->!V->Hp->VK->Prop):Prop:=
 ∀(pins:!(Addr×Obj)) (s:Shared) (σ:St) (H:Hp) (x:V) (xs:!V) (v:Value) (us:!Value) (Q:VK),rB X pins σ H s->CB x v->yB xs us->r x xs H Q->
  wpAny (model X.prog X.w) X.A (call (.builtin id) (v::us)) (EP X pins σ Q) X.xe s
section
variable {X:Cx} {a b:Expr} {ta tb:TE} {pos:Pos}
theorem nG.or {r J:R2} (h:nG X r) (h':nG X J):nG X (λx j H Q=>r x j H Q\/J x j H Q):=by
 intro U O F s V H x j v u Q B L N q D;let q||q:=q
 .show h U O F s V H x j v u Q B L N q D
 .show h' U O F s V H x j v u Q B L N q D
theorem BD {r:R2} (L:nG X r) (F:PE X a ta) (J:PE X b tb) (N:EG b):PE X (.Subscript a b pos) (fM r ta tb):=by
 intro O s Z H Q B h;show Subscript_ (eJ F J B h λv u W x Y j D U V q=>L a b O W Z j x Y v u Q D U V q (N _ _))
def FG (K:PySem.W.Frag):R2:=λx y H Q=>∃p xs i v,x=.ref p/\y=.int i/\RB K H p xs/\tD xs i>v/\Q v H
def hJ (K:PySem.W.Frag):R2:=λx y H Q=>∃p xs i v,x=.ref p/\y=.int i/\ED K H p xs/\tD xs i>v/\Q v H
theorem FE:nG X (FG X.K):=by
 intro a9 a8 N s O H x ab v u Q D a2 a3 h L;let(a7,xs,i,a4,rfl,rfl,Z,W,q):=h;cases a2;let(t,rfl):=a3;let(a0,r,pl,a6):=D.list Z;let(j,h1,h2,h3,U,V):=pX W;let(w,F,a1):=r.get h2;let Y:=r.length;let a5:=eE;let J:EP X N O Q w s:=(a4,H,D,a1,q)
 by_cases h0:0<=i
 .let B:i.toNat=j:=by
   rw[seqIndex_of h0 V] at h1;show lA h1
  show item_listR pl.isList h0 ⋯ (by rw[B];simpa using F) J L
 .let B:(i+(a0.toArray.size:Int)).toNat=j:=by
   rw[seqIndex_neg ⋯ U] at h1;rw[pA,<-Y];show lA h1
  show subscriptTail_builtinR (x:=w) pl.isList.typeIs slot_list_getitem.lookup
   (wpAny_getItem_list_neg (Q:=λr s'=>r=w/\EP X N O Q r s') pl.isList ⋯ (by rw[pA]<;>omega) ⋯ (by rw[B];simpa using F) ⟨rfl,J⟩) L
theorem iJ:nG X (hJ X.K):=by
 intro a8 a7 D s F H x a9 v u Q B Y Z h V;let(a6,xs,i,a0,rfl,rfl,U,N,q):=h;cases Y;let(t,rfl):=Z;let(a5,r,pl,a4):=B.tuple U;let(j,h1,h2,h3,a1,a2):=pX N;let(w,J,W):=r.get h2;let O:=r.length;let a3:=eE;let L:EP X D F Q w s:=(a0,H,B,W,q)
 show subscriptTail_builtinR (x:=w) pl.typeIs slot_tuple_getitem.lookup
  (getItem_tuple (j:=j) (Q:=λr s'=>r=w/\EP X D F Q r s') pl ⋯ ⋯ (by rw[pA,<-O];show h1) (by simpa using J) ⟨rfl,L⟩) V
theorem h9 (q:!Value) (n j:Nat) (u:Value):Obj.mapSeq (·.setIfInBounds j u) {cls:=.type "list",data:=.seq q.toArray n}={cls:=.type "list",data:=.seq (q.set j u).toArray n}:=by
 simp[Obj.mapSeq]
theorem rB.lst {D:!(Addr×Obj)} {J:St} {H:Hp} {s:Shared} {q:Addr} {xs:!V} (B:rB X D J H s) (h:H q>(.lst xs)):
  ∃(j:!Value) (n:Nat),yB xs j/\s.heap.get? q>{cls:=.type "list",data:=.seq j.toArray n}/\xs.length<=sizeLine:=by
 let(F,j,n,r,e):=B.hok q _ h;show(j,n,r,e,F)
theorem rB.lstUpd {L:!(Addr×Obj)} {N:St} {H:Hp} {s:Shared} {j:Addr} {xs D:!V} {J its':!Value} {n B:Nat} {f:Obj->Obj} (O:rB X L N H s) (h:H j>(.lst xs))
  (W:s.heap.get? j>{cls:=.type "list",data:=.seq J.toArray n}) (F:f {cls:=.type "list",data:=.seq J.toArray n}={cls:=.type "list",data:=.seq its'.toArray B}) (r:yB D its') (Y:D.length<=sizeLine) (t:Nat):
  rB X L N (uB H j (.lst D)) {s with heap:=s.heap.update j f,toks:=t}:=by
 let e:(s.heap.update j f).get? j>{cls:=.type "list",data:=.seq its'.toArray B}:=by
  rw[Heap.get?_update_self f W (by rw[F]<;>rfl),F]
 show O.write (x:=j) (e:=j) (by rw[h];trivial) (.inl rfl) (λZ u U q=>(JA _ _ (Ne.symm U)).trans q) ⟨_,e⟩ ?_;show(Y,its',B,r,e)
def rSetL:V->V->V->Hp->(Hp->Prop)->Prop:=λo i v H Q=>∃p xs k j,o=.ref p/\i=.int k/\H p>(.lst xs)/\gJ xs.length k>j/\Q (uB H p (.lst (xs.set j v)))
theorem i9:cM X rSetL:=by
 intro Z s a3 H o i v a6 a5 u Q J a1 a0 a2 h;let(V,xs,k,j,rfl,rfl,O,W,q):=h;cases a1;let(t,rfl):=a0;let(U,n,r,F,Y):=J.lst O;let(h1,h2,h3,N):=oX W;let D:=r.length;let a4:=eE;let L:rB X Z a3 (uB H V (.lst (xs.set j v))) {s with heap:=s.heap.update V (Obj.mapSeq (·.setIfInBounds j u))}:=
  J.lstUpd O F (h9 U n j u) (r.set a2 j) (by rw[List.length_set];show Y) s.toks
 by_cases h0:0<=k
 .let B:k.toNat=j:=by
   rw[seqIndex_of h0 N] at h1;show lA h1
  show PySem.W.ki_setAt F h0 ⋯ (by rw[pA,<-D];show N) (by rw[B];show(_,L,q))
 .let B:(k+(U.toArray.size:Int)).toNat=j:=by
   rw[seqIndex_neg ⋯ h3] at h1;rw[pA,<-D];show lA h1
  show PySem.W.ki_setBack F ⋯ (by rw[pA,<-D];show h3) ⋯ (by rw[B];show(_,L,q))
def rSlL (K:PySem.W.Frag):V->Option Int->Option Int->Hp->VK->Prop:=λx lo hi H Q=>∃a xs,x=.ref a/\RB K H a xs/\∀p,H p=none->Q (.ref p) (uB H p (.lst (CT xs lo hi)))
def rM:V->Bool
 |.non=>true
 |.bl _=>true
 |.int _=>true
 |.str _=>true
 |_=>false
theorem DT:TC X (.type "list") (λxs H Q=>∃J F,xs=[.ref J]/\(RB X.K H J F\/ED X.K H J F)/\∀l,H l=none->Q (.ref l) (uB H l (.lst F))):=by
 intro a2 s a4 H xs us Q O r h;let(J,F,rfl,L,q):=h;let(u,rfl,a3):=rE r;cases a3;let Z:∀(j:!Value),yB F j->F.length<=sizeLine->∀(h':Heap) (B:Nat),(∀Y a0,s.heap.get? Y>a0->h'.get? Y>a0)->
   h'.get? s.heap.objs.size>{cls:=.type "list",dict:=none,data:=.seq j.toArray B,slots:= #[]}->EP X a2 a4 Q (.ref s.heap.objs.size) {s with heap:=h'}:=λj D N h' B kp e=>
  (.ref s.heap.objs.size,_,O.laid (t':=s.toks) kp (eA _) (show LB X.prog X.w _ h' _ (.lst F) from (N,j,B,D,e)),rfl,q _ (O.hok.fresh (eA _)))
 let L||L:=L
 .let(j,D,pl,N):=O.list L;let a1:=D.length;let(o,W,U,n,V):=pl.isList;show call_list_seq J (.inl rfl) W U V (λh' B kp e=>Z j D N h' B kp e) (by simp only[pA]<;>omega)
 .let(j,D,pl,N):=O.tuple L;let a1:=D.length;let(o,W,U,n,V):=pl;show call_list_seq J (.inr rfl) W U V (λh' B kp e=>Z j D N h' B kp e) (by simp only[pA]<;>omega)
def qX (K:PySem.W.Frag) (T:String) (x:V) (H:Hp):Prop:=match x with
 |.str _=>T="str"
 |.int _=>T="int"
 |.ref p=>(T="list"/\∃xs,RB K H p xs)\/(T="tuple"/\∃o,K.lookup p>o/\o.cls=.type "tuple"/\o.dict=none)\/
  (T="dict"/\((∃kvs,H p>(.dK kvs))\/∃kvs,H p>(.dT kvs)))\/(T="set"/\∃S n,H p>(.set S n))
 |_=>False
theorem jJ {W:!(Addr×Obj)} {Y:St} {H:Hp} {s:Shared} {T:String} {x:V} {v:Value} (B:rB X W Y H s) (r:CB x v) (ty:qX X.K T x H):
  s.TypeIs v T/\∀a,v=.ref a->∃N,s.heap.get? a>N/\N.dict=none:=by
 cases x with
 |str L=>
  let(t,rfl):=r;cases (show T="str" from ty);show⟨typeIs_str s L t,λο e=>nomatch e⟩
 |int i=>
  let(t,rfl):=r;cases (show T="int" from ty);show⟨typeIs_int s i t,λο e=>nomatch e⟩
 |ref D=>
  cases r;let(rfl,xs,U)||(rfl,o,j,O,J)||(rfl,j)||(rfl,S,n,j):=ty
  .let(Z,_,pl,_):=B.list U;show⟨pl.isList.typeIs,λa e=>?_⟩;cases e;let(o,n,e,c,J,_):=pl;show(o,e,J)
  .show⟨(o,B.kIn D o j,O),λa e=>?_⟩;cases e;show(o,B.kIn _ o j,J)
  .let L:∃o,s.heap.get? D>o/\o.ExactDict:=by
    let(kvs,j)||(kvs,j):=j
    .let(_,_,_,_,o,_,_,e,q,_):=B.hok D _ j;show(o,e,q)
    .let(_,_,_,_,o,_,_,e,q,_):=B.hok D _ j;show(o,e,q)
   let(o,e,q):=L;show⟨(o,e,q.1),λa F=>?_⟩;cases F;show(o,e,q.2.1)
  .let(o,_,_,_,e,q,_):=B.hok D _ j;show⟨(o,e,q.1),λa F=>?_⟩;cases F;show(o,e,q.2.1)
 |_=>show False.elim ty
def rX (K:PySem.W.Frag) (T:String) (r:V->!V->Hp->VK->Prop) (to:TE) (t:TA):TE:=λσ H Q=>to σ H λx H1=>qX K T x H1/\t σ H1 λxs H2=>r x xs H2 Q
variable {o e:Expr} {es:!Expr} {to:TE} {t:TA} {name:Str} {apos cpos:Pos} {T id:String} {r:V->!V->Hp->VK->Prop}
theorem HH (a4:PlainAttrs T) (ab:Slot T name id) (a3:typeOf (.builtin id)=pure (.type "method_descriptor")) (Z:f9 X id r) (a0:PE X o to) (U:PA X (e::es) t)
  (V:attributeBase o name X.env (eval o X.env)=eval o X.env:=by rfl)
  (W:((backTo cpos (starEach (e::es) X.env)).all (λx=> not x.1)&&(backToKw cpos (keywordEach [] X.env)).all (λx=>x.1.isSome)
   &&decide ((e::es).length+([]:!Keyword).length+(if ([]:!Keyword).isEmpty then 0 else 1) < 30))=true:=by rfl)
  (Y:(apos.endLine == cpos.line)=true:=by rfl) (a2:starEach (e::es) X.env=(false,eval e X.env)::starEach es X.env:=by rfl) (a1:(backTo cpos (starEach es X.env)).any (·.1)=false:=by rfl):
  PE X (.Call (.Attribute o name apos) (e::es) [] cpos) (rX X.K T r to t):=by
 intro j s q H Q N h;show wpAny_Call_method_late V W Y rfl (NB (a0 j s q H _ N h) λv a8 zz=>?_);let(x,J,B,F,ty,a5):=zz;let(h1,h2):=jJ B F ty;show(T,id,a4,ab,a3,h1,h2,?_);let D:=U cpos j a8 q J _ B a5;rw[a2] at D ⊢;show Calls.callWith_builtin (by change (false || (backTo cpos (starEach es X.env)).any (·.1))=false;rw[a1]<;>rfl) (Calls.evalArgs_plain ?_);show NB D λus a9 ⟨vs,L,O,a7,a6⟩=>Z j a9 q L x vs v us Q O F a7 a6
end
def j9 (X:Cx) (id:String) (r:V->!V->Hp->VK->Prop):Prop:=
 ∀(pins:!(Addr×Obj)) (s:Shared) (σ:St) (H:Hp) (x:V) (xs:!V) (v:Value) (us:!Value) (Q:VK),rB X pins σ H s->CB x v->yB xs us->r x xs H Q->
  wpAny (model X.prog X.w) X.A (call (.builtin id) (v::us)) (EP X pins σ Q) X.xe s
theorem yB.one:∀{x:V} {us:!Value},yB [x] us->∃u,us=[u]/\CB x u:=by
 intro x us h;cases h with
 |cons r h=>cases h;show(_,rfl,r)
theorem yB.two:∀{x y:V} {us:!Value},yB [x,y] us->∃u v,us=[u,v]/\CB x u/\CB y v:=by
 intro x y us h;cases h with
 |cons r h=>
  cases h with
  |cons q h=>cases h;show(_,_,rfl,r,q)
theorem yB.zero:∀{us:!Value},yB [] us->us=[]
 |_,.nil=>rfl
theorem yB.reverse {xs:!V} {us:!Value} (h:yB xs us):yB xs.reverse us.reverse:=by
 induction h with
 |nil=>show .nil
 |cons r t j=>rw[List.reverse_cons,List.reverse_cons];show yB.append j (.cons r .nil)
theorem yB.rep {xs:!V} {us:!Value} (h:yB xs us):∀k:Nat,yB (List.replicate k xs).flatten (List.replicate k us).flatten
 |0=>.nil
 |k+1=>by
  rw[UA,UA,List.flatten_cons,List.flatten_cons];show yB.append h (yB.rep h k)
theorem sX (its:!Value):∀(k:Nat) (acc:!Value),
  List.foldl (λx1 x2=>x1++x2) acc.toArray (List.replicate k its.toArray)=(acc++(List.replicate k its).flatten).toArray
 |0,acc=>by simp
 |k+1,acc=>by
  let e:acc.toArray++its.toArray=(acc++its).toArray:=by simp
  let e2:(acc++its)++(List.replicate k its).flatten=acc++(List.replicate (k+1) its).flatten:=by
   rw[UA,List.flatten_cons,List.append_assoc]
  rw[<-e2,<-sX its k (acc++its),<-e,UA,List.foldl_cons]
section
variable {X:Cx} {pins:!(Addr×Obj)} {σ:St} {H:Hp} {s:Shared} {l b:Addr} {xs ys zs:!V}
theorem rB.lset {j its':!Value} {n:Nat} {f:Array Value->Array Value} {t':Nat} (B:rB X pins σ H s) (D:H l>(.lst xs))
  (e:s.heap.get? l>{cls:=.type "list",data:=.seq j.toArray n}) (J:f j.toArray=its'.toArray) (N:yB ys its') (O:ys.length<=sizeLine):
  rB X pins σ (uB H l (.lst ys)) {s with heap:=s.heap.update l (Obj.mapSeq f),toks:=t'}:=by
 let q:=PySem.IsL.update e f;rw[J] at q;show B.write (x:=l) (e:=l) (by rw[D];show trivial) (.inl rfl) (λU u F L=>(JA s.heap (Obj.mapSeq f) (Ne.symm F)).trans L) ⟨_,q⟩ ?_;show(O,its',_,N,q)
theorem rB.lnew {j:!Value} {t':Nat} (B:rB X pins σ H s) (D:yB ys j) (F:ys.length<=sizeLine):
  rB X pins σ (uB H s.heap.objs.size (.lst ys)) {s with heap:=s.heap.push {cls:=.type "list",data:=.seq j.toArray},toks:=t'}:=
 B.laid (λο ο q=>cA _ q) (eA _) (F,j,0,D,jA _ rfl)
theorem rB.fresh (I:rB X pins σ H s):H s.heap.objs.size=none:=I.hok.fresh (eA _)
theorem rB.lstM (q:rB X pins σ H s) (B:H l>(.lst xs)):xs.length<=sizeLine/\∃(j:!Value) (n:Nat),yB xs j/\xs.length=j.length/\s.heap.get? l>{cls:=.type "list",data:=.seq j.toArray n}:=by
 let(D,j,n,r,e):=q.hok l _ B;show(D,j,n,r,r.length,e)
theorem RF {n:Nat} (h:n<=sizeLine):Builtin.List.listTooLong n=false:=by
 unfold Builtin.List.listTooLong;show GA ⋯
end
section
variable {X:Cx}
def rAppend:V->!V->Hp->VK->Prop:=λx vs H Q=>∃l xs y,x=.ref l/\vs=[y]/\H l>(.lst xs)/\xs.length < sizeLine/\Q .non (uB H l (.lst (xs++[y])))
theorem ET:j9 X "list.append" rAppend:=by
 intro V s Z H x vs v us Q j N L h;let(l,xs,W,rfl,rfl,B,U,q):=h;cases N;let(u,rfl,J):=L.one;let(Y,D,n,r,O,e):=j.lstM B;show call_meets F.slot_list_append (_,e,rfl) F.entry_list_append (F.args_list_append_2 _ _) (PySem.list_append l D.toArray n u (by rw[pA];omega)) ⟨e,?_⟩;show(.non,_,j.lset (its':=D++[u]) B e (by simp) (r.append (.cons J .nil)) ?_,rfl,q);rw[HA,List.length_singleton];omega
def rRep:R2:=λx y H Q=>∃l k xs,x=.ref l/\y=.int k/\H l>(.lst xs)/\ -(2 ^ 63)<=k/\k < 2 ^ 63/\xs.length * k.toNat<=sizeLine/\
 ∀p,H p=none->Q (.ref p) (uB H p (.lst (List.replicate k.toNat xs).flatten))
theorem k9 {q:Type} (xs:!q) (k:Nat):(List.replicate k xs).flatten.length=k * xs.length:=by
 induction k with
 |zero=>simp
 |succ k j=>rw[UA,List.flatten_cons,HA,j,Nat.succ_mul,Nat.add_comm]
theorem IH:zD X (binaryOp .Mult) rRep:=by
 intro a4 s a8 H x a6 v u Q B a2 a3 h;let(l,k,xs,rfl,rfl,O,h1,h2,L,q):=h;cases a2;let(t,rfl):=a3;let(a7,j,n,r,Y,e):=B.lstM O;let Z:j.toArray.size * k.toNat<=sizeLine:=by rw[pA,<-Y];show L
 let V:¬GT.gt (j.toArray.size * k.toNat) ((2 ^ 63 - 1) / 8):=by
  have:(sizeLine:Nat)<=(2 ^ 63 - 1) / 8:=by decide
  omega
 let W:¬(not (Builtin.List.listFitsIndex k))=true:=by
  rw[fitsIndex_both h1 h2];show oA
 let a0:¬Builtin.List.listTooLong (j.toArray.size * k.toNat)=true:=by
  rw[RF Z];show oA
 let a1:List.foldl (λD J=>D++J) #[] (List.replicate (if j.toArray.isEmpty=true then 0 else k.toNat) j.toArray)=(List.replicate k.toNat j).flatten.toArray:=by
  let N:∀m:Nat,List.foldl (λD J=>D++J) #[] (List.replicate m j.toArray)=(List.replicate m j).flatten.toArray:=λm=>by
   have:=sX j m [];rw[List.nil_append] at this;show this
  rw[N];cases j with
  |nil=>simp
  |cons a a5=>rw[kA (by simp)]
 show wpAny_binaryOp_repeat_ref (T:="list") (U:="int") (by decide) (_,e,rfl) (λs'=>typeIs_int s' k t) noFill_list_mul F.fills_int_mul F.slot_int_rmul repeat_list F.slot_int_index.lookup
  (call_meets F.slot_int_rmul (typeIs_int s k t) F.entry_int_rmul (F.args_int_rmul_2 _ _) (int___rmul___int_list k t l j.toArray n)
   (e,rfl,(_,e,rfl),call_meets F.slot_list_mul (_,e,rfl) F.entry_list_mul (F.args_list_mul_2 _ _) (AutoListH.list___mul___list_int_3 l j.toArray n k t W V a0) ⟨e,?_⟩))
 rw[a1];show(.ref _,_,B.lnew (t':=s.toks) (r.rep k.toNat) (by rw[k9,Nat.mul_comm];show L),rfl,q _ B.fresh)
end
section
variable {prog:Program} {w:World} {A:Around} {E:Value->Shared->Prop} {s:Shared}
end
section
variable {X:Cx}
end
section
variable {κ:Type} [DecidableEq κ]
def aC (kvs:!(κ×V)) (k:κ):Option V:=(kvs.find? λkv=>decide (kv.1=k)).map (·.2)
def QC (kvs:!(κ×V)) (k:κ) (v:V):!(κ×V):=
 if (kvs.any λkv=>decide (kv.1=k))=true then kvs.map (λkv=>if kv.1=k then (kv.1,v) else kv) else kvs++[(k,v)]
def JH (kvs:!(κ×V)) (k:κ):!(κ×V):=kvs.filter λkv=>decide (kv.1≠k)
theorem FT {p:κ×V} {r:!(κ×V)} {k:κ} (e:p.1=k):aC (p::r) k>p.2:=by simp[aC,List.find?_cons,e]
theorem GT {p:κ×V} {r:!(κ×V)} {k:κ} (e:¬p.1=k):aC (p::r) k=aC r k:=by simp[aC,List.find?_cons,e]
theorem sM (k:κ):∀kvs:!(κ×V),(kvs.any λkv=>decide (kv.1=k))=(aC kvs k).isSome
 |[]=>rfl
 |p::r=>by
  rw[List.any_cons];by_cases e:p.1=k
  .simp only[FT e,DA e,Bool.true_or,Option.isSome_some]
  .rw[GT e,GA e,Bool.false_or];show sM k r
theorem tX (kvs:!(κ×V)) (k:κ) (v:V):(QC kvs k v).length<=kvs.length+1:=by
 unfold QC
 split
 .rw[rA];omega
 .rw[HA,OA,List.length_nil];omega
theorem l9 {kvs:!(κ×V)} {k:κ} (v:V) (h:aC kvs k=none):QC kvs k v=kvs++[(k,v)]:=by
 unfold QC;rw[sM,h];show kA (by decide)
theorem FC.isSome_eq {o:Option V} {u:Option Value} (r:FC o u):o.isSome=u.isSome:=by
 cases o with
 |none=>cases u with
  |none=>rfl
  |some _=>show (show False from r).elim
 |some _=>cases u with
  |none=>show (show False from r).elim
  |some _=>rfl
theorem FC.getD {o:Option V} {u:Option Value} {d:V} {d':Value} (r:FC o u) (j:CB d d'):CB (o.getD d) (u.getD d'):=by
 cases o with
 |none=>cases u with
  |none=>show j
  |some _=>show (show False from r).elim
 |some _=>cases u with
  |none=>show (show False from r).elim
  |some _=>show r
theorem KV.val {kvs:!(κ×V)} {vs:!(κ×Value)} (r:KV kvs vs) (k:κ):FC (aC kvs k) (valueAt vs k):=by
 unfold KV at r
 induction r with
 |nil=>show True.intro
 |@cons p q ps qs h t ih=>
  let(h1,h2):=h;by_cases e:p.1=k
  .let B:q.1=k:=h1.symm.trans e;let j:valueAt (q::qs) k>q.2:=by simp[valueAt,List.find?_cons,B]
   rw[FT e,j];show h2
  .let B:¬q.1=k:=λD=>e (h1.trans D);let j:valueAt (q::qs) k=valueAt qs k:=by simp[valueAt,List.find?_cons,B]
   rw[GT e,j];show ih
theorem KV.any {kvs:!(κ×V)} {vs:!(κ×Value)} (r:KV kvs vs) (k:κ):(kvs.any λj=>decide (j.1=k))=vs.any λj=>decide (j.1=k):=by
 unfold KV at r
 induction r with
 |nil=>rfl
 |cons h t q=>rw[List.any_cons,List.any_cons,q,h.1]
theorem KV.repl {kvs:!(κ×V)} {vs:!(κ×Value)} (r:KV kvs vs) (k:κ) {B:V} {u:Value} (D:CB B u):
  KV (kvs.map λj=>if j.1=k then (j.1,B) else j) (vs.map λj=>if j.1=k then (j.1,u) else j):=by
 unfold KV at r ⊢
 induction r with
 |nil=>show .nil
 |@cons p q ps qs h t ih=>
  rw[CA,CA];show .cons ?_ ih;let(h1,h2):=h;by_cases e:p.1=k
  .rw[vA e,vA (h1.symm.trans e)];show⟨h1,D⟩
  .rw[kA e,kA (λF=>e (h1.trans F))];show⟨h1,h2⟩
theorem KV.put {kvs:!(κ×V)} {vs:!(κ×Value)} (r:KV kvs vs) (k:κ) {q:V} {u:Value} (j:CB q u):KV (QC kvs k q) (stored vs k u):=by
 unfold QC stored;rw[r.any k];by_cases e:(vs.any λB=>decide (B.1=k))=true
 .rw[vA e,vA e];show r.repl k j
 .rw[kA e,kA e];show Paired.snoc r ⟨rfl,j⟩
theorem KV.drop {kvs:!(κ×V)} {vs:!(κ×Value)} (r:KV kvs vs) (k:κ):KV (JH kvs k) (without vs k):=by
 unfold KV at r ⊢;unfold JH without
 induction r with
 |nil=>show .nil
 |@cons p q ps qs h t ih=>
  let(h1,h2):=h;rw[List.filter_cons,List.filter_cons];by_cases e:p.1=k
  .let a:¬decide (p.1≠k)=true:=by simp[e]
   let j:¬decide (q.1≠k)=true:=by simp[h1.symm.trans e]
   rw[kA a,kA j];show ih
  .let B:¬q.1=k:=λD=>e (h1.trans D);let a:decide (p.1≠k)=true:=by simp[e]
   let j:decide (q.1≠k)=true:=by simp[B]
   rw[vA a,vA j];show .cons ⟨h1,h2⟩ ih
theorem KV.keys {kvs:!(κ×V)} {vs:!(κ×Value)} (r:KV kvs vs):kvs.map (·.1)=vs.map (·.1):=by
 unfold KV at r
 induction r with
 |nil=>rfl
 |cons h t j=>rw[CA,CA,j,h.1]
theorem KV.length {kvs:!(κ×V)} {vs:!(κ×Value)} (r:KV kvs vs):kvs.length=vs.length:=Paired.length r
end
theorem tM {P:Program} {w:World} {k:Key} {u:Value} (r:CB (kV k) u):(MB P w).is k u=true:=by
 cases k with
 |inl i=>let(t,e):=(show ∃t,u=Value.int i t from r);subst e;show f8 P w i t
 |inr x=>let(t,e):=(show ∃t,u=Value.str x t from r);subst e;show i8 P w x t
theorem uX {P:Program} {w:World}:∀{ks:!Key} {us:!Value},yB (ks.map kV) us->ItemsAre (MB P w) ks us
 |[],_,r=>by rw[List.map_nil] at r;cases r;show .nil
 |k::ks,_,r=>by
  rw[CA] at r;cases r with
  |cons h t=>show .cons (tM h) (uX t)
abbrev KT (H:Hp):!(!Key×V)->!(!Key×Addr×Value)->Prop:=Paired λp q=>p.1=q.1/\H q.2.1>(.tup (p.1.map kV))/\CB p.2 q.2.2
theorem KT.val {H:Hp} {kvs:!(!Key×V)} {xs:!(!Key×Addr×Value)} (r:KT H kvs xs) (k:!Key):FC (aC kvs k) ((atKey xs k).map (·.2)):=by
 induction r with
 |nil=>show True.intro
 |@cons p q ps qs h t ih=>
  let(h1,_,h2):=h;by_cases e:p.1=k
  .let B:q.1=k:=h1.symm.trans e;let j:atKey (q::qs) k>q.2:=by simp[atKey,List.find?_cons,B]
   rw[FT e,j];show h2
  .let B:¬q.1=k:=λD=>e (h1.trans D);let j:atKey (q::qs) k=atKey qs k:=by simp[atKey,List.find?_cons,B]
   rw[GT e,j];show ih
theorem KT.repl {H:Hp} {kvs:!(!Key×V)} {xs:!(!Key×Addr×Value)} (r:KT H kvs xs) (k:!Key) {B:V} {u:Value} (D:CB B u):
  KT H (kvs.map λj=>if j.1=k then (j.1,B) else j) (xs.map (putAt k u)):=by
 induction r with
 |nil=>show .nil
 |@cons p q ps qs h t ih=>
  rw[CA,CA];show .cons ?_ ih;let(h1,h2,h3):=h;unfold putAt;by_cases e:p.1=k
  .rw[vA e,vA (h1.symm.trans e)];show(h1,h2,D)
  .rw[kA e,kA (λF=>e (h1.trans F))];show(h1,h2,h3)
theorem KT.put {H:Hp} {kvs:!(!Key×V)} {xs:!(!Key×Addr×Value)} (r:KT H kvs xs) (k:!Key) {j:Addr} {D:V} {u:Value} (F:H j>(.tup (k.map kV))) (B:CB D u):
  KT H (QC kvs k D) (storedH xs k j u):=by
 let e:(kvs.any λJ=>decide (J.1=k))=(atKey xs k).isSome:=by
  rw[sM,(r.val k).isSome_eq,Option.isSome_map]
 unfold QC storedH;rw[e];by_cases q:(atKey xs k).isSome=true
 .rw[vA q,vA q];show r.repl k B
 .rw[kA q,kA q];show Paired.snoc r (rfl,F,B)
theorem KT.keeps {H q:Hp} {kvs:!(!Key×V)} {xs:!(!Key×Addr×Value)} (r:KT H kvs xs) (F:∀B D,H B>(.tup D)->q B>(.tup D)):KT q kvs xs:=
 Paired.mapP r λο ο j=>(j.1,F _ _ j.2.1,j.2.2)
section
variable {P:Program} {w:World} {H:Hp} {h:Heap} {a:Addr}
theorem KH {u:HO} (ok:GC P w H h) (e:Rd H a u):LB P w H h a u:=e.ok ok
theorem oG {kvs:!(Key×V)} (ok:GC P w H h) (e:Rd H a (.dK kvs)):kvs.length<=sizeLine/\(a == sysModules)=false/\∃vs,KV kvs vs/\h.DictOf (MB P w) a vs:=
 show LB P w H h a (.dK kvs) from KH ok e
theorem uM {kvs:!(Key×V)} (ok:GC P w H h) (e:H a>(.dK kvs)):kvs.length<=sizeLine/\(a == sysModules)=false/\∃vs,KV kvs vs/\h.DictOf (MB P w) a vs:=oG ok (.inl e)
theorem vM {ks:!Key} (ok:GC P w H h) (e:H a>(.tup (ks.map kV))):(tupleKind (MB P w)).is h ks a:=by
 let(_,j,r,o,h1,h2,n,h3):=(show LB P w H h a (.tup (ks.map kV)) from ok a _ e)
 show(o,j.toArray,n,h1,h2,h3,by simpa using uX r)
theorem zL {kvs:!(!Key×V)} (ok:GC P w H h) (e:Rd H a (.dT kvs)):kvs.length<=sizeLine/\(a == sysModules)=false/\
  ∃xs,KT H kvs xs/\h.DictOfH (tupleKind (MB P w)) a xs:=by
 let(L,J,xs,r,o,B,ep,h1,h2,h3,D,F):=(show LB P w H h a (.dT kvs) from KH ok e)
 show(L,J,xs,r,o,B,ep,h1,h2,h3,D,λx j=>?_,F);let all:∀{l:!(!Key×V)} {m:!(!Key×Addr×Value)},KT H l m->∀x∈m,(tupleKind (MB P w)).is h x.1 x.2.1:=by
  intro l m q
  induction q with
  |nil=>intro x j;show nomatch j
  |@cons p q ps qs hq t ih=>
   intro x j;let e||j:=iA.mp j
   .subst e;show vM ok (by rw[<-hq.1];show hq.2.1)
   .show ih x j
 show all r x j
theorem wM {kvs:!(!Key×V)} (ok:GC P w H h) (e:H a>(.dT kvs)):kvs.length<=sizeLine/\(a == sysModules)=false/\
 ∃xs,KT H kvs xs/\h.DictOfH (tupleKind (MB P w)) a xs:=zL ok (.inl e)
end
def FD (H:Hp) (a:Addr) (y:V) (r:Option V):Prop:=
 (∃kvs k,Rd H a (.dK kvs)/\y=kV k/\r=aC kvs k)\/∃kvs k b,Rd H a (.dT kvs)/\y=.ref b/\H b>(.tup (k.map kV))/\r=aC kvs k
def fF (H:Hp) (a:Addr) (y v:V) (H':Hp):Prop:=
 (∃kvs k,H a>(.dK kvs)/\y=kV k/\kvs.length < sizeLine/\H'=uB H a (.dK (QC kvs k v)))\/
 ∃kvs k b,H a>(.dT kvs)/\y=.ref b/\H b>(.tup (k.map kV))/\kvs.length < sizeLine/\H'=uB H a (.dT (QC kvs k v))
theorem FD.k {H:Hp} {a:Addr} {kvs:!(Key×V)} {k:Key} (e:H a>(.dK kvs)):FD H a (kV k) (aC kvs k):=.inl (kvs,k,.inl e,rfl,rfl)
theorem FD.t {H:Hp} {a j:Addr} {kvs:!(!Key×V)} {k:!Key} (e:H a>(.dT kvs)) (q:H j>(.tup (k.map kV))):FD H a (.ref j) (aC kvs k):=.inr (kvs,k,j,.inl e,rfl,q,rfl)
theorem fF.k {H:Hp} {a:Addr} {kvs:!(Key×V)} {k:Key} {v:V} (e:H a>(.dK kvs)) (j:kvs.length < sizeLine):fF H a (kV k) v (uB H a (.dK (QC kvs k v))):=.inl (kvs,k,e,rfl,j,rfl)
theorem fF.t {H:Hp} {a j:Addr} {kvs:!(!Key×V)} {k:!Key} {v:V} (e:H a>(.dT kvs)) (q:H j>(.tup (k.map kV))) (B:kvs.length < sizeLine):
 fF H a (.ref j) v (uB H a (.dT (QC kvs k v))):=.inr (kvs,k,j,e,rfl,q,B,rfl)
section
variable {X:Cx} {pins:!(Addr×Obj)} {σ:St} {H:Hp} {s:Shared} {a:Addr} {y v:V} {u r:Value} {o:Option V} {A:Around} {E:Value->Shared->Prop}
theorem rB.big (I:rB X pins σ H s):sysModules < s.heap.objs.size:=by
 let h:mainGlobals < s.heap.objs.size:=(I.mod.glob.keeps I.bk).lt;show Nat.lt_trans (by decide) h
theorem m9 {Q:Value->Shared->Prop} (Y:A.units+1 < cLine) (q:rB X pins σ H s) (g:FD H a y (some v)) (L:CB y u) (h:∀j s',rB X pins σ H s'->CB v j->Q j s'):
  wpAny (model X.prog X.w) A (getItem (.ref a) u) Q E s:=by
 let(kvs,k,e,B,l)||(kvs,k,N,e,B,O,l):=g
 .subst B;let(Z,U,vs,F,dd):=oG q.hok e;let(j,D,J):=FC.some_of (v:=v) (o:=valueAt vs k) (by rw[l];show F.val k);show wpAny_getItem_of (tM L) dd.mapOf D (h j _ (q.tok _) J)
 .subst B;cases (show u=Value.ref N from L);let(Z,U,xs,F,dd):=zL q.hok e;let(j,D,J):=FC.some_of (v:=v) (o:=(atKey xs k).map (·.2)) (by rw[l];show F.val k);let(a0,V,W):=KA.mp D;show wpAny_getItem_heap (tupleKind_room_in1 Y) (vM q.hok O) dd V ?_;rw[W];show h j _ (q.tok _) J
theorem IT {Q:Value->Shared->Prop} (O:A.units+1 < cLine) (j:rB X pins σ H s) (g:FD H a y o) (J:CB y u) (h:∀s',rB X pins σ H s'->Q (.bool o.isSome) s'):
  wpAny (model X.prog X.w) A (compareOp .In u (.ref a)) Q E s:=by
 let(kvs,k,e,B,l)||(kvs,k,L,e,B,N,l):=g
 .subst B;let(U,D,vs,F,dd):=oG j.hok e;show wpAny_in_of (tM J) D dd.mapOf ?_;rw[<-(F.val k).isSome_eq,<-l];show h _ (j.tok _)
 .subst B;cases (show u=Value.ref L from J);let(U,D,xs,F,dd):=zL j.hok e;show wpAny_in_heap (tupleKind_room_in1 O) (vM j.hok N) D dd ?_;let q:=(F.val k).isSome_eq;rw[Option.isSome_map] at q;rw[<-q,<-l];show h _ (j.tok _)
theorem o9 {Q:Value->Shared->Prop} (O:A.units+1 < cLine) (j:rB X pins σ H s) (g:FD H a y o) (J:CB y u) (h:∀s',rB X pins σ H s'->Q (.bool (not o.isSome)) s'):
  wpAny (model X.prog X.w) A (compareOp .NotIn u (.ref a)) Q E s:=by
 let(kvs,k,e,B,l)||(kvs,k,L,e,B,N,l):=g
 .subst B;let(U,D,vs,F,dd):=oG j.hok e;show wpAny_notIn_of (tM J) D dd.mapOf ?_;rw[<-(F.val k).isSome_eq,<-l];show h _ (j.tok _)
 .subst B;cases (show u=Value.ref L from J);let(U,D,xs,F,dd):=zL j.hok e;show wpAny_notIn_heap (tupleKind_room_in1 O) (vM j.hok N) D dd ?_;let q:=(F.val k).isSome_eq;rw[Option.isSome_map] at q;rw[<-q,<-l];show h _ (j.tok _)
theorem vX {h':Heap} {t':Nat} {j:HO} (B:rB X pins σ H s) (N:TL (H a)) (L:Heap.SameBut a s.heap h') (J:∃q,h'.get? a>q) (O:LB X.prog X.w (uB H a j) h' a j):
  rB X pins σ (uB H a j) {s with heap:=h',toks:=t'}:=
 B.write (x:=a) (e:=a) N (.inl rfl) (λD q F U=>(L.2 D F).trans U) J O
theorem kJ {P:Program} {w:World} {j:Hp} {h':Heap} {kvs:!(Key×V)} {vs:!(Key×Value)} (D:kvs.length<=sizeLine) (q:(a == sysModules)=false) (B:KV kvs vs) (dd:h'.DictOf (MB P w) a vs):
 LB P w j h' a (.dK kvs):=(D,q,vs,B,dd)
theorem p9 {Y:Hp} {Q:Unit->Shared->Prop} (a8:A.units+1 < cLine) (j:rB X pins σ H s) (g:fF H a y v Y) (a2:CB y u) (a1:CB v r) (h:∀s',rB X pins σ Y s'->Q ⟨⟩ s'):
  wpAny (model X.prog X.w) A (setItem (.ref a) u r) Q E s:=by
 let(kvs,k,e,N,l,L)||(kvs,k,a3,e,N,Z,l,L):=g
 .subst N L;let(D,O,vs,B,dd):=uM j.hok e;let W:vs.length<=sizeLine:=by rw[<-B.length];show D
  let U:(QC kvs k v).length<=sizeLine:=by have:=tX kvs k v;omega
  show wpAny_setItem_pairs (hsz:=W) (tM a2) dd λh' F V=>h _ ?_;let a7:∃q,h'.get? a>q:=let ⟨q,_,_,J,_⟩:=F;⟨q,J⟩
  show vX j (by rw[e];show True.intro) V a7 (kJ U O (B.put k a1) F)
 .subst N L;cases (show u=Value.ref a3 from a2);let(D,O,xs,B,dd):=wM j.hok e;let W:xs.length<=sizeLine:=by rw[<-Paired.length B];show D
  let U:(QC kvs k v).length<=sizeLine:=by have:=tX kvs k v;omega
  show wpAny_setItem_heap (hsz:=W) (tupleKind_room_in1 a8) (vM j.hok Z) dd λh' F V=>h _ ?_;let(q,a4,ep,J,h2,h3,a5,_,a6):=F;show vX j (by rw[e];show True.intro) V ⟨q,J⟩ (U,O,_,(B.put k Z a1).keeps λc a9 a0=>?_,q,a4,ep,J,h2,h3,a5,a6);rw[IB (AG a0 e nofun)];show a0
end
section
variable {X:Cx} {pins:!(Addr×Obj)} {σ:St} {H:Hp} {s:Shared} {a:Addr} {kvs:!(Key×V)} {k:Key} {u:Value} {A:Around} {E:Value->Shared->Prop}
end
def xM (i:Expr):Prop:=∀ov iv,subscripted i false ov iv=operate [ov,iv] (getItem ov iv)
theorem q9 {prog:Program} {w:World} {A:Around} {E:Value->Shared->Prop} {s:Shared} {env:Env} {F j:Expr} {pos:Pos} {T id:String} {Q:Value->Shared->Prop}
  (O:typeLookup (.type T) "__getitem__"=pure (some (.builtin id))) (U:xM j)
  (h:wpAny (model prog w) A (eval F env) (λo L=>wpAny (model prog w) A (eval j env) (λi q=>q.TypeIs o T/\wpAny (model prog w) A (getItem o i) Q E q) E L) E s):
  wpAny (model prog w) A (eval (.Subscript F j pos) env) Q E s:=by
 show Subscript_ (EA h (λo L V=>EA V (λi q D=>?_) λο ο x=>x) λο ο x=>x);let(J,D):=D;unfold subscriptTail;show aA ?_;rw[getitemInPython_of_ne J.not_modules];show aA (wpAny_specialOf J O ?_);let B:wpAny (model prog w) A (subscripted j false o i) (λr N=>wpAny (model prog w) A (letTemporaryGo F o r >>= λο=>pure r) Q E N) E q:=by
  rw[U o i];show wpAny_operating (EA D (λr N W=>aA (wpAny_letTemporaryGo (qA W))) λο ο x=>x)
 first
  |exact qA (aA B)
  |exact aA (qA (aA B))
  |exact aA B
theorem t9 {X:Cx} {q:!(Addr×Obj)} {D:St} {H:Hp} {s:Shared} {a:Addr} {B:V} {o:Option V} (j:rB X q D H s) (g:FD H a B o):s.TypeIs (.ref a) "dict":=by
 let(kvs,k,e,_,_)||(kvs,k,F,e,_,_,_):=g
 .let(_,_,vs,_,dd):=oG j.hok e;show dd.typeIs
 .let(_,_,xs,_,dd):=zL j.hok e;show dd.typeIs
def sE (td ty:TE):TE:=λσ H Q=>td σ H λx H1=>ty σ H1 λy H2=>∃a v,x=.ref a/\FD H2 a y (some v)/\Q v H2
def yM (ty td:TE):TE:=λσ H Q=>ty σ H λy H1=>td σ H1 λx H2=>∃a o,x=.ref a/\FD H2 a y o/\Q (.bl o.isSome) H2
def gE (ty td:TE):TE:=λσ H Q=>ty σ H λy H1=>td σ H1 λx H2=>∃a o,x=.ref a/\FD H2 a y o/\Q (.bl (not o.isSome)) H2
def tE (td ty tv:TE):TS:=λD σ H=>tv σ H λv H1=>td σ H1 λx H2=>ty σ H2 λy H3=>∃a H4,x=.ref a/\fF H3 a y v H4/\D.nx σ H4
section
variable {X:Cx} {o i e value:Expr} {pos pos' tpos:Pos} {td ty tv:TE}
theorem WR (Y:X.A.units+1 < cLine) (V:PE X o td) (U:PE X i ty) (W:xM i):PE X (.Subscript o i pos) (sE td ty):=by
 intro q s B H Q J h;show q9 PySem.F.slot_dict_getitem.lookup W (NB (V q s B H _ J h) λu a4 ⟨x,D,L,a2,Z⟩=>NB (U q a4 B D _ L Z) λa5 a6 zz=>?_);let(a9,F,j,a3,a,v,O,g,a0):=zz;subst O;obtain rfl:u=Value.ref a:=a2;show⟨t9 j g,m9 Y j g a3 λa8 a7 N a1=>(v,F,N,a1,a0)⟩
theorem lJ (W:X.A.units+1 < cLine) (U:PE X i ty) (V:PE X o td):PC X .In i o (yM ty td):=by
 intro j s q H Q F h;show NB (U j s q H _ F h) λa4 a3 ⟨a7,B,J,a2,Z⟩=>NB (V j a3 q B _ J Z) λu a5 zz=>?_;let(x,D,L,a1,a,Y,O,g,a0):=zz;subst O;obtain rfl:u=Value.ref a:=a1;show IT W L g a2 λa6 N=>(.bl Y.isSome,D,N,rfl,a0)
theorem wX (W:X.A.units+1 < cLine) (U:PE X i ty) (V:PE X o td):PC X .NotIn i o (gE ty td):=by
 intro j s q H Q F h;show NB (U j s q H _ F h) λa4 a3 ⟨a7,B,J,a2,Z⟩=>NB (V j a3 q B _ J Z) λu a5 zz=>?_;let(x,D,L,a1,a,Y,O,g,a0):=zz;subst O;obtain rfl:u=Value.ref a:=a1;show o9 W L g a2 λa6 N=>(.bl (not Y.isSome),D,N,rfl,a0)
theorem YR (a0:X.A.units+1 < cLine) (Y:PE X o td) (W:PE X i ty) (a1:PE X value tv) (Z:swapsWith value (some (.Subscript o i pos')) pos.line X.env=pure false):
  PS X (.Assign [.Subscript o i pos'] value pos) (tE td ty tv):=by
 intro q s j H ab J h;show wpAny_Assign_Subscript (NB (a1 q s j H _ J h) λr a8 ⟨v,B,L,a5,a2⟩=>NB (Y q a8 j B _ L a2) λu a9 ⟨x,D,N,a6,a3⟩=>NB (W q a9 j D _ N a3) λad ah zz=>?_) Z;let(b1,ac,O,a7,a,F,V,g,a4):=zz;subst V;obtain rfl:u=Value.ref a:=a6;show p9 a0 O g a7 a5 λap U=>(j,F,U,a4)
end
theorem u9 {P:Program} {w:World} {H:Hp} (h:Heap) (j:sysModules < h.objs.size):LB P w H (h.push {cls:=.type "dict",data:=.dict #[]}) h.objs.size (.dK []):=
 (Nat.zero_le _,beq_eq_false_iff_ne.mpr (Ne.symm (uA j)),[],.nil,Heap.DictOf.new h)
def tDNewK:TE:=λο H Q=>∀p,H p=none->Q (.ref p) (uB H p (.dK []))
section
variable {X:Cx} {pos:Pos}
theorem mJ:PE X (.Dict [] [] pos) tDNewK:=λB s D H Q j h=>
 wpAny_Dict_empty (.ref s.heap.objs.size,_,j.laid (a:=s.heap.objs.size) (o:=.dK []) (t':=s.toks) (λο ο q=>cA _ q) (eA _) (u9 s.heap j.big),rfl,h _ (j.hok.fresh (eA _)))
end
def mergeK (kvs more:!(Key×V)):!(Key×V):=more.foldl (λacc kv=>QC acc kv.1 kv.2) kvs
def v9 (H:Hp) (a:Addr):Prop:=(∃kvs,Rd H a (.dK kvs))\/∃kvs,Rd H a (.dT kvs)
theorem xX {X:Cx} {J:!(Addr×Obj)} {L:St} {H:Hp} {s:Shared} {a:Addr} (F:rB X J L H s) (d:v9 H a):
  s.TypeIs (.ref a) "dict"/\(∀B,Value.ref a=.ref B->∃j,s.heap.get? B>j/\j.dict=none)/\(a == sysModules)=false:=by
 let(kvs,e)||(kvs,e):=d
 .let(_,D,vs,_,dd):=oG F.hok e;show(dd.typeIs,λB q=>?_,D);cases q;let(j,_,_,h1,h2,_):=dd;show(j,h1,h2.2.1)
 .let(_,D,xs,_,dd):=zL F.hok e;show(dd.typeIs,λB q=>?_,D);cases q;let(j,_,_,h1,h2,_):=dd;show(j,h1,h2.2.1)
section
variable {X:Cx} {pins:!(Addr×Obj)} {σ:St} {H:Hp} {s:Shared} {a:Addr} {y d:V} {u r:Value} {o:Option V} {A:Around} {E:Value->Shared->Prop}
end
section
variable {X:Cx} {o e f:Expr} {apos cpos:Pos} {td ty tx:TE}
end
section
variable {X:Cx} {pins:!(Addr×Obj)} {σ:St} {H:Hp} {s:Shared} {a:Addr} {kvs:!(Key×V)} {A:Around} {E:Value->Shared->Prop}
end
section
variable {X:Cx} {pins:!(Addr×Obj)} {σ:St} {H:Hp} {s:Shared} {a:Addr} {y:V} {u:Value} {A:Around} {E:Value->Shared->Prop}
end
end L2
namespace Att
open PySem PySem.W PySem.Calls PyProof.Rows
theorem x9 {P:Params} {h:Heap}:∀(ns:!Int) (vs:!Value),WellAll P h vs (ns.map WData.int)->IntsAre vs ns:=by
 intro ns
 induction ns with
 |nil=>
  intro vs w;rw[List.map_nil] at w;cases w;show .nil
 |cons n ns q=>
  intro vs w;rw[CA] at w;cases w with
  |cons a j=>
   cases a;show .cons _ _ (q _ j)
theorem y9 {l:OpenLaw} {n:Nat} (O:l.most>n) {P:Params} {h:Heap} {args:!WData} {J:!Value}
  (F:l.row.toRowW.claim.pre args=true) (W:WellAll P h J args):
  ∃a vs ns,J=[Value.ref a]/\args=[WData.list (ns.map WData.int)]/\h.get? a>{cls:=.type "list",data:=.seq vs.toArray}/\IntsAre vs ns/\ns.length<=n:=by
 let V:WShape.hasAll [] args [.list .int]=true:=(pre_splitW F).1;let D:l.pre.holds [] {args:=args}=true:=(pre_splitW F).2;let(d,r,rfl,h1,h2):=hasAllW_cons V;obtain rfl:=hasAllW_nil h2;let(xs,rfl,h3):=hasW_list h1;let(ns,rfl):=items_int h3;let N:ns.length<=n:=by
  unfold OpenLaw.pre at D;let j:(WTm.not (.lt (.lit (.int (n:Int))) (.len (.arg 0)))).holds [] {args:=[.list (ns.map .int)]}=true:=by
   let j:=(holds_andW D).1;rw[O] at j;show j
  let B:=condW_of j (w_not (w_lt w_lit (w_len_list (w_arg rfl))));rw[rA] at B;show Nat.le_of_not_lt λq=>?_;let Y:(n:Int) < ((ns.length:Nat):Int):=⋯
  first
   |(rw[DA Y] at B;show absurd B (by decide))
   |(simp at B;omega)
 cases W with
 |cons Z a0=>
  cases a0;cases Z with
  |list U L=>show(_,_,ns,rfl,rfl,U,x9 ns _ L,N)
theorem Q9 (l:OpenLaw) (args:!WData):l.row.toRowW.claim.post args (.bool true) args=true:=
 postW_of (r:=l.row.toRowW) (X:=(true == true))
  (show WShape.has [] (.bool true) .bool=true by first|rfl|decide|simp[WShape.has,WShape.arms,WShape.armsAll])
  (show (WTm.eq .res (.lit (.bool true))).value [] {args:=args,res:=some (.bool true),after:=args}>(.bool (true == true)) from w_eq_bool (w_res rfl) w_lit) rfl
theorem R9 {l:OpenLaw} {n:Nat} {q:Program} {loose:!Str} {XP:(Str->Option Value)->Heap->Prop} {YP:World->Heap->Prop} {d:DefRec}
  (a7:l.most>n) (a1:d.params.defaults=[])
  (call:∀(w:World) (N j:Shared) (mg J:Str->Option Value) (B:Addr) (o:Obj) (L D F:Value) (a:Addr) (vs:!Value) (ns:!Int),
   Ground q loose [] XP w N mg J j.heap->YP w j.heap->
   j.heap.get? B>o->o.data=.func (docDef d.name d.params d.body d.scope L D F)->j.heap.CodeRec D d.name->mg d.name=↑B->
   j.heap.get? a>{cls:=.type "list",data:=.seq vs.toArray}->IntsAre vs ns->ns.length<=n->j.gens= #[]->
   codeAny (model l.prog w) callerA (.call (.ref B) ⟨[.ref a],[]⟩) (λr s'=>r=.ok (.ret (.bool true))/\OldK j.heap s'.heap/\s'.os=j.os/\AllBare s'.gens) j):
  WalkO q loose XP YP l.row.toRowW d [] (λf vs=>PySem.call f vs):=by
 intro w N j mg J U V B o L D F W kV a8 a0 Z O a6 a2 args b2 as ab ah b1 ad ap;obtain rfl:W=.none:=Dflts.none O a1;obtain rfl:kV=.none:=Dflts.noKw O;let(a,vs,ns,rfl,rfl,a9,a3,a4):=y9 a7 ab ad;show enter_call (codeAny_mono (call w N j mg J B o L D F a vs ns U V a8 (fd_plain a0) Z a6 a9 a3 a4 a2) λr s' ac=>?_);let(rfl,h2,h3,Y):=ac;show(.inl (.bool true,.bool true,[],rfl,λο=>rfl,.bool true,Q9 l _,λο=>⟨List.Pairwise.nil,λο a5=>(nomatch a5)⟩),h2,h3,Y)
section
variable {prog:Program} {w:World} {A:Around} {E:Value->Shared->Prop} {s:Shared} {K:Frag}
def ledger (h:Heap) (L d:Addr):!(Addr×Obj):=(List.range h.objs.size).filterMap λa=>if a=L\/a=d then none else (h.get? a).map λo=>(a,o)
end
end Att
namespace L2
open PySem PySem.Spec PyProof.Rows
theorem yX:∀{vs:!Value} {ns:!Int},IntsAre vs ns->yB (ns.map V.int) vs
 |_,_,.nil=>.nil
 |_,_,.cons n t h=>.cons ⟨t,rfl⟩ (yX h)
def nJ (H:Hp):Prop:=∀b,H b=none\/∃o xs,H b>(.frz o (.lst xs))
theorem S9 {P:Program} {w:World} {K:PySem.W.Frag} {mg Z:Str->Option Value} {CX:CXT} {k:Nat} {W a:Addr} {a4:FuncData} {x:Str} {sp:Sp} {B:Shared} {vs:!Value} {ns:!Int}
  (a0:K.In B.heap) (ab:B.heap.Ns mainGlobals mg) (F:B.heap.Ns builtinsNs Z) (bd:∀x:Str,x≠"__name__"->Z x=bootBuiltins x) (bm:B.heap.NoLimit) (bl:B.gens= #[])
  (N:B.heap.get? a>{cls:=.type "list",data:=.seq vs.toArray}) (a8:IntsAre vs ns) (a9:ns.length<=sizeLine) (c1:YB k callerA)
  (ah:∀base:Heap,K.In base->base.Ns mainGlobals mg->sD P w K mg base CX k W a4 [x] sp) (be:∀(s:Shared) (u:Value),BindsTo s a4 ⟨[u],[]⟩ [(x,u)])
  (c2:∀H:Hp,nJ H->RB K H a (ns.map V.int)->sp [.ref a] H (λv ο=>v=.bl true) λο ο ο=>False)
  (b4:∀H e s',CX [] H B (λο ο ο=>False) e s'->False):
  codeAny (model P w) callerA (.call (.ref W) ⟨[.ref a],[]⟩) (λr s'=>r=.ok (.ret (.bool true))/\OldK B.heap s'.heap/\s'.os=B.os/\AllBare s'.gens) B:=by
 let ad:=yX a8;let c3:=a8.length;let a2:∀H:Hp,nJ H->RB K H a (ns.map V.int)->GC P w H B.heap->(∀j,H j≠none->j=a)->(H a≠none->K.lookup a=none)->
   codeAny (model P w) callerA (.call (.ref W) ⟨[.ref a],[]⟩) (λr s'=>r=.ok (.ret (.bool true))/\OldK B.heap s'.heap/\s'.os=B.os/\AllBare s'.gens) B:=by
  intro H a7 bc ac a5 b5;let a1:∀{j:Addr} {o:Obj},B.heap.get? j>o->H j=none->(cE B.heap H).get? j>o:=λe n=>l8 e n;let ca:∀{j:Addr} {o:Obj} {J:Array DictEntry} {ep:Nat},B.heap.get? j>o->o.data=.dict J ep->H j=none:=λ{j o J ep} e d=>by
   cases q:H j with
   |none=>rfl
   |some u=>
    let U:j=a:=a5 j (by rw[q];simp);subst U;rw[N] at e;cases e;let d':Data.seq vs.toArray _=Data.dict J ep:=d;cases d'
  let O:∀{j:Addr} {m:Str->Option Value},B.heap.Ns j m->(cE B.heap H).Ns j m:=λ{j m} ⟨o,J,ep,e,d,r⟩=>(o,J,ep,a1 e (ca e d),d,r)
  let a6:K.In (cE B.heap H):=λj o e=>a1 (a0 j o e) (by
   cases q:H j with
   |none=>rfl
   |some u=>
    let U:j=a:=a5 j (by rw[q];simp);subst U;rw[b5 (by rw[q];simp)] at e;cases e)
  let bb:Mod K mg (cE B.heap H):=(a6,O ab,(Z,O F,bd),let ⟨mc,h1,h2⟩:=bm;(mc,O h1,h2))
  let b1:fE P w K mg (cE B.heap H) callerA [] B H:=(rfl,bb,λj o e=>m8 e,Nat.le_of_eq (k8 _ _),trivial,λj F=>absurd (show j∈([]:!Addr) from F) (by simp),ac,.of_eq bl)
  show codeAny_mono ((ah _ a6 (O ab)).run callerA [] B H ⟨[.ref a],[]⟩ [.ref a] [.ref a] _ _ c1 b1 (be B (.ref a)) (.cons rfl .nil) (c2 H a7 bc)) λr s' h=>?_;cases r with
  |error e=>show (b4 H e s' h).elim
  |ok b3=>
   cases b3 with
   |next=>show False.elim h
   |brk=>show False.elim h
   |cont=>show False.elim h
   |ret u=>
    let(v,co,ch,ap,un,c0,cl,q):=h;let ck:v=.bl true:=q;subst ck;obtain rfl:u=Value.bool true:=cl;show(rfl,OldK.of_keep λj o e=>?_,ch,ap);cases q:H j with
    |none=>show un.keep j o e q (by intro D;show absurd (show j∈([]:!Addr) from D) (by simp)) (by simp)
    |some u=>
     let D||(cd,xs,D):=a7 j
     .rw[q] at D;cases D
     .let z2:=un.frzs j cd _ D;let(a3,_):=ac j _ D;let(b2,_):=c0 j _ z2;rw[e] at a3;cases a3;show b2
 cases Y:K.lookup a with
 |some o=>
  let e:=a0 a o Y;rw[N] at e;cases e;show a2 (λο=>none) (λο=>.inl rfl) (.inr (_,vs.toArray,_,Y,rfl,rfl,rfl,by rw[pA,c3];show a9,by simpa using ad)) (λj u D=>by let L:(none:Option HO)>u:=D;cases L) (λj D=>absurd rfl D) λD=>absurd rfl D
 |none=>
  show a2 (λj=>if j=a then some (.frz {cls:=.type "list",data:=.seq vs.toArray} (.lst (ns.map V.int))) else none) (λj=>?_) (.inl (.inr ⟨{cls:=.type "list",data:=.seq vs.toArray},vA rfl⟩)) (λj u D=>?_) (λj D=>?_) λο=>Y
  .by_cases F:j=a
   .show .inr (_,_,vA F)
   .show .inl (kA F)
  .by_cases F:j=a
   .let L:=(vA F).symm.trans D;cases L;subst F;show(N,by rw[rA];show a9,vs,_,ad,N)
   .let L:=(kA F).symm.trans D;cases L
  .by_cases F:j=a
   .show F
   .show absurd (kA F) D
theorem T9 {l:PySem.W.OpenLaw} {n k:Nat} {q:Program} {loose:!Str} {XP:(Str->Option Value)->Heap->Prop} {YP:World->Heap->Prop} {d:DefRec} {K:Params->PySem.W.Frag} {CX:World->CXT} {sp:World->Sp} {x:Str}
  (a5:l.most>n) (a6:n<=sizeLine) (a1:d.params.defaults=[]) (a8:YB k callerA)
  (Z:∀(w:World) (h:Heap),YP w h->(K w.params).In h)
  (L:∀(w:World) (mg:Str->Option Value) (B:Addr) (h:Heap),(K w.params).In h->h.Ns mainGlobals mg->mg d.name=↑B->
   ∃D:FuncData,(∀(s:Shared) (u:Value),BindsTo s D ⟨[u],[]⟩ [(x,u)])/\
    ∀base:Heap,(K w.params).In base->base.Ns mainGlobals mg->sD l.prog w (K w.params) mg base (CX w) k B D [x] (sp w))
  (a9:∀(w:World) (H:Hp) (a:Addr) (ns:!Int),ns.length<=n->nJ H->RB (K w.params) H a (ns.map V.int)->sp w [.ref a] H (λv ο=>v=.bl true) λο ο ο=>False)
  (O:∀(w:World) (H:Hp) (s:Shared) (e:Value) (s':Shared),CX w [] H s (λο ο ο=>False) e s'->False):
  PySem.W.WalkO q loose XP YP l.row.toRowW d [] (λf vs=>PySem.call f vs):=by
 show Att.R9 a5 a1 λw b4 ab mg b2 B o b3 ac ad a vs ns j N b1 ap ah a4 a7 a3 J a2=>?_;let F:=Z w _ N;let(D,a0,U):=L w mg B _ F j.T.g a4;show S9 F j.T.g j.T.b j.T.builtins j.T.nolimit a2 a7 a3 (cB J a6) a8 U a0 (λH W Y=>a9 w H a ns J W Y) λH e s'=>O w H ab e s'
abbrev zX:CXT:=λο ο ο ο ο ο=>False
structure uE (K:PySem.W.Frag) (x qual:Str) (st:Stmt) (f:Addr) (fd:FuncData):Prop where
 ex:∃(oc:Value) (od:Option Addr) (kV doc pm:Value) (an:Option Addr) (cdv ct:Value) (osl:Array (Option Value)),
  fd=PySem.W.fnOf x qual (kB st) (jB st) (iB st) .none kV doc pm an cdv ct/\K.lookup f>(oc,od,.func fd,osl)/\PySem.W.codeIn K cdv qual=true
 kp:PySem.W.keepIn K (.ref f)=true
section
variable {P:Program} {w:World} {K:PySem.W.Frag} {mg:Str->Option Value} {base:Heap}
theorem uE.ok {x F:Str} {st:Stmt} {f:Addr} {J:FuncData} {N D:!Str} {k:Nat} {sp:Sp} (L:uE K x F st f J) (S:mB N D (iB st)) (len:∀vs H Q E,sp vs H Q E->vs.length=D.length)
  (U:∀(j:Value) (A:Around) (B:!Env) (s:Shared) (H:Hp) (vs:!V) (Q:VK) (E:XK),YB k (A.deeper (envOfC F (iB st) s.heap.objs.size f j))->sp vs H Q E->
   ∃t,DD (rC zX P w K mg base N F (iB st) f j A B s H E).nox (jB st) t/\t {nx:=λο O=>Q .non O,rt:=Q} (nC N vs) H):sD P w K mg base zX (k+1) f J D sp:=by
 let(a4,a5,kV,a3,a7,a1,j,a2,a6,rfl,a0,W):=L.ex;show xT a0 W S len λA B s H vs Q E Y Z=>?_;let(t,h,q):=U j A B s H vs Q E Y Z;show(t,h.nox,q)
theorem uE.binds {x N:Str} {st:Stmt} {f:Addr} {L:FuncData} {J:!Str} (O:uE K x N st f L)
  (h:∀(kV D F:Value) (j:Option Addr) (q B:Value) (us:!Value),us.length=J.length->bindArgs (PySem.W.fnOf x N (kB st) (jB st) (iB st) .none kV D F j q B) ⟨us,[]⟩=pure (J.zip us)):iC K L J []:=by
 let(W,Y,kV,D,F,j,q,B,Z,rfl,V,U):=O.ex;show .all (h kV D F j q B)
theorem JT {x q:Str} {st:Stmt} {f:Addr} {L:Value} {N B:Option Addr} {O:Array (Option Value)} {kV F J j D:Value} (l:K.lookup f>(L,N,.func (PySem.W.fnOf x q (kB st) (jB st) (iB st) .none kV F J B j D),O))
 (c:PySem.W.codeIn K j q=true) (k:PySem.W.keepIn K (.ref f)=true):uE K x q st f (PySem.W.fnOf x q (kB st) (jB st) (iB st) .none kV F J B j D):=⟨(L,N,kV,F,J,B,j,D,O,rfl,l,c),k⟩
end
theorem SF {A:Around} {k:Nat} (j:YB k A):A.units+1 < cLine:=Nat.lt_of_le_of_lt (Nat.add_le_add_left (by decide:1<=64) _) j.units
section
variable {X:Cx}
end
theorem VB {A B:Prop} (h:B):if false=true then A else B:=by
 rw[kA oA];show h
theorem jC {A B:Prop} (h:A):if true=true then A else B:=by
 rw[vA rfl];show h
theorem PD {c A B:Prop} [Decidable c] (h1:c->A) (h2:¬c->B):if c then A else B:=by
 by_cases h:c
 .rw[vA h];show h1 h
 .rw[kA h];show h2 h
def vB (H H':Hp):Prop:=∀b o,H b>o->H' b>o
theorem vB.trans {H j q:Hp} (a:vB H j) (B:vB j q):vB H q:=λc o h=>B c o (a c o h)
theorem vB.free {H j:Hp} (e:vB H j) {l:Addr} (h:j l=Option.none):H l=Option.none:=by
 cases q:H l with
 |none=>rfl
 |some o=>
  rw[e l o q] at h;cases h
theorem vB.seq {K:PySem.W.Frag} {H j:Hp} {a:Addr} {xs:!V} (e:vB H j) (h:RB K H a xs):RB K j a xs:=by
 rcases h with (h|⟨o,h⟩)|h
 .show .inl (.inl (e _ _ h))
 .show .inl (.inr ⟨o,e _ _ h⟩)
 .show .inr h
section
variable {κ:Type} [DecidableEq κ]
theorem AX {kvs:!(κ×V)} {k:κ} (h:aC kvs k=none):¬k∈kvs.map (·.1):=by
 intro m;let(D,j,e):=List.mem_map.mp m;let q:(kvs.any λB=>decide (B.1=k))=true:=List.any_eq_true.mpr (D,j,DA e);rw[sM,h] at q;show absurd q (by simp)
theorem BX {kvs:!(κ×V)} {k:κ} {v:V} (h:aC kvs k>v):k∈kvs.map (·.1):=by
 let q:(kvs.any λB=>decide (B.1=k))=true:=by
  rw[sM,h]
  all_goals rfl
 let(D,j,e):=List.any_eq_true.mp q;show List.mem_map.mpr (D,j,of_decide_eq_true e)
end
end L2
set_option maxHeartbeats 4000000
namespace L2
open PySem PySem.Spec PyProof.Rows
section
variable {M:Model} {A:Around} {E:Value->Shared->Prop} {s:Shared}
def iE (e:Addr) (h:Heap):Prop:=∃o vs,h.get? e>o/\o.data=.fields vs/\vs[2]?>.none
theorem TF {B:Heap} {env:Env} {U:!Env} {D e:Addr} {L:Obj} {vs:Array Value} {O a0:Value} {nx:Bool} {Q:Unit->Shared->Prop}
  (ab:A.frames>(env::U)) (N:s.heap.FunFrames B (env::U)) (a9:env.frame>D) (W:s.heap.get? e>L) (st:B.StaysIn s.heap) (ne:B.get? e=none) (dd:L.data=.fields vs) (sz:1 < vs.size) (b3:vs[0]?>a0) (b4:vs[2]?>.none)
  (q:∀h',Heap.NotedW B (env::U) e L.cls a0 (rawInt D) s.heap h'->iE e h'->Q ⟨⟩ {s with heap:=h'}):
  wpAny M A (do let a<-frameOf env;let pl<-entryPlaceOf D nx;let j<-EntryCells.newEntry O a .none (rawInt D) .none pl;setField (.ref e) 1 j) Q E s:=by
 let b1:e∉(env::U).filterMap (·.frame):=λm=>by
  let(_,o,a5,J):=N.mem m;rw[W] at a5;cases a5;show J vs dd
 show aA (wpAny_frameOf_fun ab N a9 λk1 z1=>aA (wpAny_entryPlaceOf λpl b5=>?_));unfold EntryCells.newEntry newFields;show aA (wpAny_newObj_type ?_ (b5.sizeOk5 _ _ _ _ _));let a2:k1.get? e>L:=(z1.2.1 e b1).trans W;let a8:B.StaysIn k1:=λj o F=>(z1.2.1 j λm=>by rw[(N.mem m).1] at F;cases F).trans (st j o F);generalize ap:({cls:=.type "traceback",dict:=none,data:=.fields ([O,.ref D,.none,rawInt D,.none]++(if pl.isEmpty then List.replicate 6 Value.none else pl)).toArray}:Obj)=nT;let a6:nT.data=.fields ([O,.ref D,.none,rawInt D,.none]++(if pl.isEmpty then List.replicate 6 Value.none else pl)).toArray:=by rw[<-ap]
 let ah:nT.isFreed=false:=Obj.isFreed_of_fields a6;let a3:(k1.push nT).get? e>L:=cA nT a2;let ac:(k1.push nT).get? k1.objs.size>nT:=jA k1 ah;show wpAny_setField a3 dd sz ?_;let a1:k1.objs.size≠e:=Nat.ne_of_gt (dA a2);let V:=Obj.data_mapFields dd (·.setIfInBounds 1 (Value.ref k1.objs.size));let a4:=Heap.get?_update_self (Obj.mapFields (·.setIfInBounds 1 (Value.ref k1.objs.size))) a3 (Obj.isFreed_of_fields V);let ad:=(JA (k1.push nT) (Obj.mapFields (·.setIfInBounds 1 (Value.ref k1.objs.size))) (Ne.symm a1)).trans ac;let kp:∀j o,j≠e->k1.get? j>o->((k1.push nT).update e (Obj.mapFields (·.setIfInBounds 1 (Value.ref k1.objs.size)))).get? j>o:=λj o n g=>by
  rw[JA _ _ (Ne.symm n)];show cA _ g
 let a7:∀j o,s.heap.get? j>o->(∀vs,o.data≠.fields vs)->j≠e:=λj o g J Z=>by
  rw[Z,W] at g;cases g;show J vs dd
 let b2:([O,.ref D,.none,rawInt D,.none]++(if pl.isEmpty then List.replicate 6 Value.none else pl)).toArray[3]?>(rawInt D):=by simp
 show q _ (λj o F=>kp j o (λZ=>by rw[Z,ne] at F;cases F) (a8 j o F),N.of_keeps λj o g J=>?_,(_,_,k1.objs.size,nT,_,a4,⟨Obj.cls_mapFields _ _,?_⟩,V,?_,a8.fresh,a1,ad,a6,b2),λj o g J=>?_) (_,_,a4,V,?_)
 .let(sl,Y):=z1.2.2 j o g;show(_,kp j _ (a7 j o g J) Y,rfl)
 .rw[Array.getElem?_setIfInBounds_ne (by decide)];show b3
 .simp[sz]
 .let(sl,Y):=z1.2.2 j o g;show⟨sl,kp j _ (a7 j o g J) Y⟩
 .rw[Array.getElem?_setIfInBounds_ne (by decide)];show b4
theorem jE {B:Heap} {l:!Env} {e:Addr} {cls a0 a4:Value} {Q:Unit->Shared->Prop} (st:B.StaysIn s.heap) (a3:s.heap.FunFrames B l) (a9:s.heap.TracedAtW B e cls a0 a4) (a6:iE e s.heap) (ne:B.get? e=none)
  (q:∀h',Heap.FlyingW B l e cls a0 h'->s.heap.UpToSlots h'->iE e h'->Q ⟨⟩ {s with heap:=h'}):wpAny M A (setFlight (.ref e) none) Q E s:=by
 let(a7,vs,T,ac,a1,V,a5,dd,a2,W,L,N,J,a8):=a9;let Z:3 < a1.size:=(Array.getElem?_eq_some_iff.mp a8).1;unfold setFlight;show aA (wpAny_field V dd a2 ?_);rw[vA (show (Value.ref T != Value.none)=true by simp)];let F:∀j,j≠T->(s.heap.update T (Obj.mapFields (·.setIfInBounds 3 ((none:Option Addr).elim Value.none λf=>rawInt f)))).get? j=s.heap.get? j:=λj n=>JA _ _ (Ne.symm n);let Y:∀j o,s.heap.get? j>o->(∀vs,o.data≠.fields vs)->j≠T:=λj o g D U=>by
  rw[U,N] at g;cases g;show D a1 J
 show wpAny_setField N J Z (q _ (λj o O=>(F j λU=>by rw[U,W] at O;cases O).trans (st j o O),ne,a3.of_keeps λj o g D=>(o,(F j (Y j o g D)).trans g,rfl),?_) (λj o g D=>⟨o.slots,(F j (Y j o g D)).trans g⟩) ?_)
 .show(a7,vs,T,_,_,(F e (Ne.symm L)).trans V,a5,dd,a2,W,L,Heap.get?_update_self _ N (Obj.isFreed_of_fields (Obj.data_mapFields J _)),Obj.data_mapFields J _,by simp[Z])
 .let(o,ab,g,d,v):=a6;show(o,ab,(F e (Ne.symm L)).trans g,d,v)
theorem UF {B:Heap} {env:Env} {V:!Env} {J e:Addr} {cls a0:Value} {Q:Unit->Shared->Prop} (a6:A.frames>(env::V)) (Y:env.frame>J) (a5:Heap.FlyingW B (env::V) e cls a0 s.heap) (a9:iE e s.heap)
  (q:∀h',Heap.HeldW B (env::V) e cls a0 J h'->s.heap.UpToSlots h'->iE e h'->Q ⟨⟩ {s with heap:=h'}):wpAny M A (noteFrame (.ref e) env) Q E s:=by
 let(st,ne,a4,bb,vs,T,b5,ac,O,(a7,ad),dd,a2,a8,a3,N,L,a1):=a5;let(b4,bc,g',d',ah):=a9;rw[O] at g';cases g';rw[dd] at d';cases d';subst a7;unfold noteFrame;simp only[Y];show aA (wpAny_field O dd a2 ?_);rw[vA (show (Value.ref T != Value.none)=true by simp)];show aA (wpAny_field N L a1 ?_);rw[kA (show ¬((Value.none == rawInt J)=true) by simp[rawInt])];show aA (wpAny_setField N L (Array.getElem?_eq_some_iff.mp a1).1 ?_);let F:∀j,j≠T->(s.heap.update T (Obj.mapFields (·.setIfInBounds 3 Value.none))).get? j=s.heap.get? j:=λj n=>JA _ _ (Ne.symm n);let Z:∀j o,s.heap.get? j>o->(∀vs,o.data≠.fields vs)->j≠T:=λj o g D W=>by
  rw[W,N] at g;cases g;show D ac L
 show TF a6 (a4.of_keeps λj o g D=>(o,(F j (Z j o g D)).trans g,rfl)) Y ((F e (Ne.symm a3)).trans O) (λj o U=>(F j λW=>by rw[W,a8] at U;cases U).trans (st j o U)) ne dd (Array.getElem?_eq_some_iff.mp a2).1 ad ah λh' ⟨ap,b1,b2,b3⟩ ab=>?_;show q h' (ap,ne,b1,b2) (λj o g D=>b3 j o ((F j (Z j o g D)).trans g) D) ab
theorem GG {B:Heap} {env:Env} {j:!Env} {D e:Addr} {cls a0:Value} {Q:Unit->Shared->Prop} (V:A.frames>(env::j)) (F:env.frame>D) (U:Heap.FlyingW B (env::j) e cls a0 s.heap) (Z:iE e s.heap)
  (q:∀h',Heap.FlyingW B j e cls a0 h'->s.heap.UpToSlots h'->iE e h'->Q ⟨⟩ {s with heap:=h'}):wpAny M A (leaving env (.ref e)) Q E s:=by
 unfold leaving;show aA (UF V F U Z λk ⟨h1,h2,h3,W⟩ a3 a1=>?_);show jE (s:={s with heap:=k}) h1 h3 W a1 h2 λY ⟨J,L,⟨_,_,N⟩,O⟩ a4 a2=>?_;show q Y (J,L,N,O) (a3.trans a4) a2
theorem vE {B h:Heap} {env:Env} {F:!Env} {O e:Addr} {cls:Value} {args:!Value} {Q:Unit->Shared->Prop} (a1:A.frames>(env::F)) (J:env.frame>O) (st:B.StaysIn h) (Z:h.FunFrames B (env::F)) (mk:Heap.MadeExcOf h s.heap e cls args)
  (q:∀h' t,Heap.FlyingW B F e cls (.ref t) h'->s.heap.UpToSlots h'->iE e h'->Q ⟨⟩ {s with heap:=h'}):wpAny M A (leaving env (.ref e)) Q E s:=by
 let(t,L,_,_):=mk.there;let N:∀j,h.get? j=none->B.get? j=none:=λj D=>by
  cases ac:B.get? j with
  |none=>rfl
  |some o=>have:=st j o ac;rw[D] at this;cases this
 unfold leaving noteFrame;simp only[J];show aA (aA (wpAny_field L rfl (x:=.none) rfl ?_));rw[kA (by decide)];show TF a1 (Z.of_keeps λj o D ο=>(o,mk.keeps j o D,rfl)) J L (λj o D=>mk.keeps j o (st j o D)) (N e mk.new) rfl (by simp) (a0:=.ref t) rfl rfl λk ⟨a7,a8,a9,ab⟩ a4=>?_;show jE (s:={s with heap:=k}) a7 a8 a9 a4 (N e mk.new) λa2 ⟨U,V,⟨_,_,W⟩,Y⟩ a6 a5=>?_;show q a2 t (U,V,W,Y) (Heap.UpToSlots.trans (λj o g a3=>ab j o g a3) a6) a5
end
structure ZR (B:Heap) (l:!Env) (h:Heap) (H H':Hp) (h':Heap) (ea:Addr) (cls:Value):Prop where
 fl:∃a0,Heap.FlyingW B l ea cls a0 h'
 trk:∀b u,H' b>u->∃o,B.get? b>o
 kept:∀b o,h.get? b>o->H b=none->b∉mC l->B.get? b>o
 alive:∀b o,h.get? b>o->b∉mC l->∃o',B.get? b>o'
 nc:iE ea h'
def kE (P:Program) (w:World):CXT:=λouter H s E e s'=>∃ea cls H' B,e=.ref ea/\s'.os=s.os/\AllBare s'.gens/\Un (mC outer) [] H H' s.heap s'.heap/\GC P w H' s'.heap/\ZR B outer s.heap H H' s'.heap ea cls/\E cls none H'
abbrev XKs:=Value->St->Hp->Prop
def XW (X:Cx) (K:XKs):Prop:=∀(pins:!(Addr×Obj)) (σ:St) (H:Hp) (s s':Shared) (ea:Addr) (cls:Value) (H':Hp) (B:Heap),rB X pins σ H s->s'.os=s.os->AllBare s'.gens->
 Un (mC X.stack) [] H H' s.heap s'.heap->GC X.prog X.w H' s'.heap->ZR B X.stack s.heap H H' s'.heap ea cls->K cls σ H'->X.xe (.ref ea) s'
theorem DX {env:Env} {l:!Env} {L:Addr} (h:env.frame>L):mC (env::l)=L::mC l:=by
 unfold mC;rw[List.filterMap_cons,h]
theorem GC.flown {P:Program} {w:World} {H:Hp} {B h h':Heap} (x:GC P w H h) (t:∀j u,H j>u->∃o,B.get? j>o) (s:B.StaysIn h) (s':B.StaysIn h'):GC P w H h':=λa o e=>
 (x a o e).stay (λj u D q=>by
  let L:∃o,B.get? j>o:=by
   let rfl||D:=D
   .show t _ _ e
   .show t _ _ D
  let(N,J):=L;let F:=s j N J;rw[q] at F;cases F;show s' j _ J) (λο q=>q) λο ο q=>q
theorem JB {P:Program} {w:World} {K:PySem.W.Frag} {mg:Str->Option Value} {base:Heap} {N:!Str} {O:Str} {scope:Scope} {f:Addr} {L:Value} {A:Around} {J:!Env} {F:Shared} {a1:Hp} {E:XK}:
  XW (rC (kE P w) P w K mg base N O scope f L A J F a1 E) (λc ο a3=>E c none a3):=by
 intro c0 c1 H s s' a8 cls a3 B Y be a7 un ah W b4;let U:=Y.call' (s':=s') (ch:=[]) be un ah a7 (λj q=>absurd q (by simp));let ab:=Y.ok.frames;let bc:(rC (kE P w) P w K mg base N O scope f L A J F a1 E).stack=envOfC O scope F.heap.objs.size f L::J:=rfl;rw[bc] at ab;let(a0,a5):=W.fl;let a9:(envOfC O scope F.heap.objs.size f L).frame>F.heap.objs.size:=rfl;change wpAny _ _ (leaving (envOfC O scope F.heap.objs.size f L) (.ref a8)) _ _ s';show GG ab a9 a5 W.nc λh' a2 bm bd=>?_;let ac:mC (envOfC O scope F.heap.objs.size f L::J)=F.heap.objs.size::mC J:=DX a9;let b1:∀j o,F.heap.get? j>o->j∉mC J->j∉mC (envOfC O scope F.heap.objs.size f L::J):=λj o e n q=>by
  rw[ac] at q;let q||q:=iA.mp q
  .show absurd (dA e) (by rw[q];show eB _)
  .show n q
 let stay:∀j o,F.heap.get? j>o->a1 j=none->j∉mC J->B.get? j>o:=λj o e n D=>
  W.kept j o (Y.base.keep j o e n D (by intro q;show absurd q (by simp[rC]))) (Y.base.free j o e n (by intro q;show absurd q (by simp[rC]))) (b1 j o e D)
 let ap:∀j o,F.heap.get? j>o->j∉mC J->∃b2,B.get? j>b2:=λj o e D=>by
  let(Z,V):=Y.base.there j o e (by intro q;show absurd q (by simp[rC]));show W.alive j Z V (b1 j o e D)
 show(a8,cls,a3,B,rfl,U.os,a7,?_,ah.flown W.trk a5.1 a2.1,(⟨a0,a2⟩,W.trk,stay,ap,bd),b4);let a6:∀j:Addr,j∉(rC (kE P w) P w K mg base N O scope f L A J F a1 E).ex:=λj q=>absurd q (by simp[rC]);let b3:∀j,j∈mC J->∀o,s'.heap.get? j>o->∃sl,h'.get? j>{o with slots:=sl}:=λj D o e=>by
  let bb:j∈mC (envOfC O scope F.heap.objs.size f L::J):=by rw[ac];show wA _ D
  let(_,b2,ad,b5):=a5.2.2.1.mem bb;rw[e] at ad;cases ad;show bm j o e b5
 show(λj o e n D ο=>a2.1 j o (stay j o e n D),λj o e n D ο=>?_,λj o e n ο=>U.base.free j o e n (a6 j),λj o e ο=>?_,U.base.tups,U.base.frzs,U.base.tbls)
 .let(sl,V):=U.base.slot j o e n D (a6 j);let(bl,a4):=b3 j D _ V;show⟨bl,a4⟩
 .by_cases D:j∈mC J
  .let(Z,V):=U.base.there j o e (a6 j);let(sl,a4):=b3 j D _ V;show⟨_,a4⟩
  .let(Z,V):=ap j o e D;show⟨Z,a2.1 j Z V⟩
def RC (P:Program) (w:World) (K:PySem.W.Frag) (mg:Str->Option Value) (base:Heap) (x:Str) (k:Nat) (ps:!Str) (dvs:!V) (sp:Sp):Prop:=
 ∃f fd ds,mg x=↑f/\PySem.W.keepIn K (.ref f)=true/\iC K fd ps ds/\yB dvs ds/\sD P w K mg base (kE P w) k f fd ps sp
def zB (P:Program) (w:World) (K:PySem.W.Frag) (mg:Str->Option Value) (base:Heap) (C:Addr) (m:Str) (k:Nat) (ps:!Str) (dvs:!V) (sp:Sp):Prop:=
 ∃f fd ds,JE K C m f/\iC K fd ps ds/\yB dvs ds/\sD P w K mg base (kE P w) k f fd ps sp
def kC (P:Program) (w:World) (K:PySem.W.Frag) (mg:Str->Option Value) (base:Heap) (x:Str) (C:Addr) (k:Nat) (ps:!Str) (dvs:!V) (sp:Sp):Prop:=
 ∃f fd ds,mg x=↑C/\Mk K C f/\iC K fd ps ds/\yB dvs ds/\sD P w K mg base (kE P w) k f fd ps sp
def ME (Kx:XKs) (sp:Sp) (dvs:!V) (t:TA):TE:=λσ H Q=>t σ H λvs H1=>sp (vs++dvs) H1 Q (λc ο H'=>Kx c σ H')
def NE (Kx:XKs) (C:Addr) (m:Str) (sp:Sp) (dvs:!V) (ta:TE) (t:TA):TE:=λσ H Q=>ta σ H λx H1=>∃a dx fs,x=.ref a/\H1 a>(.ins C dx fs)/\fs.lookup m=none/\
 t σ H1 λvs H2=>sp (x::(vs++dvs)) H2 Q (λc ο H'=>Kx c σ H')
def OE (Kx:XKs) (C:Addr) (sp:Sp) (dvs:!V) (t:TA):TE:=λσ H Q=>t σ H λvs H1=>∀x dx,H1 x=none->H1 dx=none->dx≠x->
 sp (.ref x::(vs++dvs)) (uB (uB H1 dx (.own x)) x (.ins C dx [])) (λv H2=>v=.non/\Q (.ref x) H2) (λc ο H'=>Kx c σ H')
section
variable {X:Cx} {Kx:XKs} {k:Nat} {f C:Addr} {fd:FuncData} {ps:!Str} {sp:Sp} {dvs:!V} {ds:!Value} {x m:Str} {p pos apos:Pos} {e o:Expr} {es:!Expr} {ta:TE} {t:TA}
theorem MT {J:!(Addr×Obj)} {D:St} {H:Hp} {s:Shared} {Q:VK} {us:!Value} {vs:!V} (L:sD X.prog X.w X.K X.mg X.base (kE X.prog X.w) k f fd ps sp) (a4:YB k X.A) (a0:iC X.K fd ps ds) (a1:yB dvs ds) (a5:XW X Kx)
  (q:rB X J D H s) (r:yB vs us) (h:sp (vs++dvs) H Q (λc ο F=>Kx c D F)):wpAny (model X.prog X.w) X.A (call (.ref f) us) (EP X J D Q) X.xe s:=by
 let N:yB (vs++dvs) (us++ds):=r.append a1;let a2:(us++ds).length=ps.length:=by rw[<-N.length];show L.len _ _ _ _ h
 show wpAny_call (codeAny_mono (L.run X.A X.stack s H ⟨us,[]⟩ (us++ds) (vs++dvs) Q _ a4 q.env0 (a0 s us q.kIn a2) N h) λr s' j=>?_);cases r with
 |error e=>
  let(U,cls,F,B,rfl,a6,O,un,a3,Y,Z):=j;show a5 J D H s s' U cls F B q a6 O un a3 Y Z
 |ok W=>
  cases W with
  |ret u=>show q.after j
  |next=>show False.elim j
  |brk=>show False.elim j
  |cont=>show False.elim j
theorem CC (j:RC X.prog X.w X.K X.mg X.base x k ps dvs sp) (Z:YB k X.A) (a0:XW X Kx) (F:PA X (e::es) t) (U:Gl X x:=by rfl) (N:(x == ("__debug__":Str))=false:=by decide)
  (O:starEach (e::es) X.env=(false,eval e X.env)::starEach es X.env:=by rfl) (Y:(backTo pos (starEach es X.env)).any (·.1)=false:=by rfl):
  PE X (.Call (.Name x p) (e::es) [] pos) (ME Kx sp dvs t):=by
 let(f,a5,a4,W,V,J,L,j):=j;intro a1 s a2 H Q B h;show aB (UI B U W ?_ N);show PySem.W.callWith_K (h₀:=X.base) B.ok.mod.kin V (NB (F pos a1 s a2 H _ B h) λus a6 ⟨vs,a3,D,r,q⟩=>⟨D.kIn,?_⟩) O Y;show MT j Z J L a0 D r q
theorem uD {pl:Sem Bool} (a0:PE X o ta) (c:VC X.K C) (j:zB X.prog X.w X.K X.mg X.base C m k ps dvs sp) (a2:YB k X.A) (a5:XW X Kx) (W:PA X (e::es) t)
  (a3:starEach (e::es) X.env=(false,eval e X.env)::starEach es X.env:=by rfl) (a1:(backTo pos (starEach es X.env)).any (·.1)=false:=by rfl)
  (a4:eval (.Call (.Attribute o m apos) (e::es) [] pos) X.env=(do
   let ov<-eval o X.env
   standAt apos.atName
   let (f,first)<-holding [ov] (getMethod ov m pl)
   callWith pos f first (backTo pos (starEach (e::es) X.env)) (backToKw pos (keywordEach [] X.env))):=by rfl):
  PE X (.Call (.Attribute o m apos) (e::es) [] pos) (NE Kx C m sp dvs ta t):=by
 let(f,ad,ab,J,Y,Z,j):=j;intro L s N H Q B h;show PySem.W.methodCall_KW (pl:=pl) (NB (a0 L s N H _ B h) λu a8 zz=>?_) a4;let(x,O,D,a7,a,ac,fs,V,U,l,q):=zz;subst V;obtain rfl:u=Value.ref a:=a7;show gX D U c J l ?_;show PySem.W.callWith_K (first:=[.ref a]) (h₀:=X.base) B.ok.mod.kin J.kp (NB (W pos L a8 N O _ D q) λus ah ⟨vs,a9,F,r,a6⟩=>⟨F.kIn,?_⟩) a3 a1;show MT (us:=.ref a::us) (vs:=.ref a::vs) j a2 Y Z a5 F (.cons rfl r) a6
theorem WC {pl:Sem Bool} (U:PE X o ta) (c:VC X.K C) (j:zB X.prog X.w X.K X.mg X.base C m k ps dvs sp) (V:YB k X.A) (Y:XW X Kx)
  (W:eval (.Call (.Attribute o m apos) [] [] pos) X.env=(do
   let ov<-eval o X.env
   standAt apos.atName
   let (f,first)<-holding [ov] (getMethod ov m pl)
   callWith pos f first (backTo pos (starEach [] X.env)) (backToKw pos (keywordEach [] X.env))):=by rfl):
  PE X (.Call (.Attribute o m apos) [] [] pos) (NE Kx C m sp dvs ta tNil):=by
 let(f,a5,a3,D,N,O,j):=j;intro Z s a1 H Q F h;show PySem.W.methodCall_KW (pl:=pl) (NB (U Z s a1 H _ F h) λu a6 zz=>?_) W;let(x,a2,B,a0,a,a4,fs,L,J,l,q):=zz;subst L;obtain rfl:u=Value.ref a:=a0;show gX B J c D l ?_;show PySem.W.callWith_K0 (first:=[.ref a]) B.kIn D.kp (MT (us:=[.ref a]) (vs:=[.ref a]) j V N O Y B (.cons rfl .nil) q)
theorem EX {N:!(Addr×Obj)} {L:St} {H:Hp} {s:Shared} {Q:VK} {us:!Value} {vs:!V} (M:Mk X.K C f) (O:sD X.prog X.w X.K X.mg X.base (kE X.prog X.w) k f fd ps sp) (ab:YB (k+1) X.A) (a6:iC X.K fd ps ds) (a7:yB dvs ds)
  (ac:XW X Kx) (D:rB X N L H s) (r:yB vs us)
  (h:∀x J,H x=none->H J=none->J≠x->sp (.ref x::(vs++dvs)) (uB (uB H J (.own x)) x (.ins C J [])) (λv Y=>v=.non/\Q (.ref x) Y) (λc ο j=>Kx c L j)):
  wpAny (model X.prog X.w) X.A (call (.ref C) us) (EP X N L Q) X.xe s:=by
 let U:=h (s.heap.objs.size+1) s.heap.objs.size (D.hok.fresh (Nat.le_succ _)) (D.hok.fresh (eA _)) (uA (Nat.lt_succ_self _));let F:=rB.made (C:=C) D;let W:yB (V.ref (s.heap.objs.size+1)::(vs++dvs)) (Value.ref (s.heap.objs.size+1)::(us++ds)):=.cons rfl (r.append a7);let a8:(Value.ref (s.heap.objs.size+1)::us++ds).length=ps.length:=by
  let e:=W.length;rw[O.len _ _ _ _ U] at e;show e.symm
 show wpAny_call (V8 (f:=f) D.kIn M.makes M.init (ZA.mp M.fn) (codeAny_mono (O.run _ X.stack _ _ ⟨Value.ref (s.heap.objs.size+1)::us,[]⟩ (Value.ref (s.heap.objs.size+1)::(us++ds)) _ _ _ (ab.make C us [])
  (F.env0.make C us []) (a6 _ (Value.ref (s.heap.objs.size+1)::us) F.kIn a8) W U) λr s' q=>?_))
 cases r with
 |error e=>
  let(a1,cls,j,B,rfl,ad,a0,un,a9,a4,a5):=q;show ac N L _ _ s' a1 cls j B F ad a0 un a9 a4 a5
 |ok a3=>
  cases a3 with
  |ret u=>
   let(v,j,Z,ap,a2,ah):=F.after q;subst a2;show⟨ap,(V.ref (s.heap.objs.size+1),j,Z,rfl,ah)⟩
  |next=>show False.elim q
  |brk=>show False.elim q
  |cont=>show False.elim q
theorem VF (j:kC X.prog X.w X.K X.mg X.base x C k ps dvs sp) (Y:YB (k+1) X.A) (Z:XW X Kx) (F:PA X (e::es) t) (U:Gl X x:=by rfl) (N:(x == ("__debug__":Str))=false:=by decide)
  (O:starEach (e::es) X.env=(false,eval e X.env)::starEach es X.env:=by rfl) (W:(backTo pos (starEach es X.env)).any (·.1)=false:=by rfl):
  PE X (.Call (.Name x p) (e::es) [] pos) (OE Kx C sp dvs t):=by
 let(f,a4,a3,V,M,J,L,j):=j;intro a0 s a1 H Q B h;show aB (UI B U V ?_ N);show PySem.W.callWith_K (h₀:=X.base) B.ok.mod.kin M.kp (NB (F pos a0 s a1 H _ B h) λus a5 ⟨vs,a2,D,r,q⟩=>⟨D.kIn,?_⟩) O W;show EX M j Y J L Z D r q
theorem U9 (j:kC X.prog X.w X.K X.mg X.base x C k ps dvs sp) (N:YB (k+1) X.A) (O:XW X Kx) (J:Gl X x:=by rfl) (F:(x == ("__debug__":Str))=false:=by decide):
  PE X (.Call (.Name x p) [] [] pos) (OE Kx C sp dvs tNil):=by
 let(f,V,U,L,M,B,D,j):=j;intro W s Y H Q q h;show aB (UI q J L ?_ F);show PySem.W.callWith_K0 q.kIn M.kp (EX (us:=[]) M j N B D O q .nil h)
theorem HG {v:V} (B:Gl X x) (j:∃u,X.mg x>u/\CB v u) (q:(x == ("__debug__":Str))=false:=by decide):PE X (.Name x pos) (tC v):=by
 let(u,j,r):=j;show o8 B j r q
theorem YE {n:String} (q:Gl X x) (B:X.mg x=none) (F:bootBuiltins x>(.type n)) (D:x≠"__name__":=by decide) (j:(x == ("__debug__":Str))=false:=by decide):PE X (.Name x pos) (tC (.ty n)):=p8 q B F rfl D j
end
def ND (K:PySem.W.Frag) (mg:Str->Option Value) (x qual:Str) (st:Stmt) (ps:!Str) (dvs:!V):Prop:=∃f fd ds,mg x=↑f/\uE K x qual st f fd/\iC K fd ps ds/\yB dvs ds
def GB (K:PySem.W.Frag) (C:Addr) (m qual:Str) (st:Stmt) (ps:!Str) (dvs:!V):Prop:=∃f fd ds,JE K C m f/\uE K m qual st f fd/\iC K fd ps ds/\yB dvs ds
def vD (K:PySem.W.Frag) (mg:Str->Option Value) (x:Str) (C:Addr) (qual:Str) (st:Stmt) (ps:!Str) (dvs:!V):Prop:=∃f fd ds,mg x=↑C/\Mk K C f/\uE K "__init__" qual st f fd/\iC K fd ps ds/\yB dvs ds
section
variable {P:Program} {w:World} {K:PySem.W.Frag} {mg:Str->Option Value} {base:Heap}
def QD (P:Program) (w:World) (K:PySem.W.Frag) (mg:Str->Option Value) (base:Heap) (qual:Str) (st:Stmt) (N:!Str) (k:Nat) (sp:Sp):Prop:=
 ∀(f:Addr) (cdv:Value) (A:Around) (outer:!Env) (s:Shared) (H:Hp) (vs:!V) (Q:VK) (E:XK),YB k (A.deeper (envOfC qual (iB st) s.heap.objs.size f cdv))->sp vs H Q E->
  ∃t,DD (rC (kE P w) P w K mg base N qual (iB st) f cdv A outer s H E) (jB st) t/\t {nx:=λο H'=>Q .non H',rt:=Q} (nC N vs) H
theorem uE.okE {x B:Str} {st:Stmt} {f:Addr} {q:FuncData} {N j:!Str} {k:Nat} {sp:Sp} (D:uE K x B st f q) (S:mB N j (iB st)) (len:∀vs H Q E,sp vs H Q E->vs.length=j.length)
  (J:QD P w K mg base B st N k sp):sD P w K mg base (kE P w) (k+1) f q j sp:=by
 let(a1,a2,kV,a0,a4,Y,F,Z,a3,rfl,V,L):=D.ex;show xT V L S len λA W s H vs Q E O U=>J f F A W s H vs Q E O U
theorem ND.have {x B:Str} {st:Stmt} {N j:!Str} {q:!V} {k:Nat} {sp:Sp} (D:ND K mg x B st j q) (S:mB N j (iB st)) (len:∀vs H Q E,sp vs H Q E->vs.length=j.length)
  (J:QD P w K mg base B st N k sp):RC P w K mg base x (k+1) j q sp:=
 let ⟨f,fd,ds,hm,F,hb,hd⟩:=D
 (f,fd,ds,hm,F.kp,hb,hd,F.okE S len J)
theorem GB.have {C:Addr} {m B:Str} {st:Stmt} {N j:!Str} {q:!V} {k:Nat} {sp:Sp} (D:GB K C m B st j q) (S:mB N j (iB st)) (len:∀vs H Q E,sp vs H Q E->vs.length=j.length)
  (J:QD P w K mg base B st N k sp):zB P w K mg base C m (k+1) j q sp:=
 let ⟨f,fd,ds,hm,F,hb,hd⟩:=D
 (f,fd,ds,hm,hb,hd,F.okE S len J)
theorem vD.have {C:Addr} {x B:Str} {st:Stmt} {N j:!Str} {q:!V} {k:Nat} {sp:Sp} (D:vD K mg x C B st j q) (S:mB N j (iB st)) (len:∀vs H Q E,sp vs H Q E->vs.length=j.length)
  (J:QD P w K mg base B st N k sp):kC P w K mg base x C (k+1) j q sp:=
 let ⟨f,fd,ds,hm,M,F,hb,hd⟩:=D
 (f,fd,ds,hm,M,hb,hd,F.okE S len J)
end
def XR (X:Cx) (K:XKs):Prop:=∀(pins:!(Addr×Obj)) (σ:St) (H:Hp) (s:Shared) (h':Heap) (e:Addr) (cls:Value) (args:!Value),rB X pins σ H s->Heap.MadeExcOf s.heap h' e cls args->K cls σ H->X.xe (.ref e) {s with heap:=h'}
theorem GC.alive {P:Program} {w:World} {H:Hp} {h:Heap} (x:GC P w H h) {j:Addr} {u:HO} (e:H j>u):∃o,h.get? j>o:=by
 let q:=x j u e;cases u with
 |lst xs=>let(_,_,_,_,e):=q;show⟨_,e⟩
 |tup xs=>let(_,_,_,(o,e,_)):=q;show⟨_,e⟩
 |dK kvs=>let(_,_,_,_,o,_,_,e,_):=q;show⟨_,e⟩
 |dT kvs=>let(_,_,_,_,o,_,_,e,_):=q;show⟨_,e⟩
 |set S n=>let(o,_,_,_,e,_):=q;show⟨_,e⟩
 |ins C D fs=>let(_,_,_,e,_):=q;show⟨_,e⟩
 |own B=>show q
 |xd fs=>let(_,(_,_,_,e,_),_):=q;show⟨_,e⟩
 |rng lo F=>let(_,_,_,e):=q;show⟨_,e⟩
 |frz J u=>let(e,_):=q;show⟨_,e⟩
 |tbl L=>show⟨_,q⟩
 |met f B=>show⟨_,q⟩
 |ext N=>let(_,e,_):=q;show e
theorem IG {P:Program} {w:World} {K:PySem.W.Frag} {mg:Str->Option Value} {base:Heap} {N:!Str} {U:Str} {scope:Scope} {f:Addr} {O:Value} {A:Around} {F:!Env} {D:Shared} {a0:Hp} {E:XK}:
  XR (rC (kE P w) P w K mg base N U scope f O A F D a0 E) (λc ο b1=>E c none b1):=by
 intro bm c0 H s h1 a5 cls args L mk b2;let a7:=L.ok.frames;let bc:(rC (kE P w) P w K mg base N U scope f O A F D a0 E).stack=envOfC U scope D.heap.objs.size f O::F:=rfl;let a3:=L.stack;let a8:=L.stkFree;rw[bc] at a7 a3 a8;let a6:(envOfC U scope D.heap.objs.size f O).frame>D.heap.objs.size:=rfl;let a9:mC (envOfC U scope D.heap.objs.size f O::F)=D.heap.objs.size::mC F:=DX a6;let Z:∀j:Addr,j∉(rC (kE P w) P w K mg base N U scope f O A F D a0 E).ex:=λj V=>absurd V (by simp[rC]);let ad:∀j o,D.heap.get? j>o->j∉mC F->j∉mC (envOfC U scope D.heap.objs.size f O::F):=λj o e n V=>by
  rw[a9] at V;let V||V:=iA.mp V
  .show absurd (dA e) (by rw[V];show eB _)
  .show n V
 change wpAny _ _ (leaving (envOfC U scope D.heap.objs.size f O) (.ref a5)) _ _ _;show vE (B:=PySem.W.hideAll s.heap (mC (envOfC U scope D.heap.objs.size f O::F))) (h:=s.heap) a7 a6 (λj o q=>PySem.W.of_hideAll _ q)
  (PySem.W.funFrames_hide a3 λenv b4 j J=>List.mem_filterMap.mpr (env,b4,J)) mk λh' t a1 bl bd=>?_
 let a4:∀j o,s.heap.get? j>o->j∉mC (envOfC U scope D.heap.objs.size f O::F)->(PySem.W.hideAll s.heap (mC (envOfC U scope D.heap.objs.size f O::F))).get? j>o:=λj o e n=>PySem.W.hideAll_get _ e n;let stay:∀j o,D.heap.get? j>o->a0 j=none->j∉mC F->(PySem.W.hideAll s.heap (mC (envOfC U scope D.heap.objs.size f O::F))).get? j>o:=λj o e n J=>
  a4 j o (L.base.keep j o e n J (Z j)) (ad j o e J)
 let ac:∀j o,D.heap.get? j>o->j∉mC F->∃ah,(PySem.W.hideAll s.heap (mC (envOfC U scope D.heap.objs.size f O::F))).get? j>ah:=λj o e J=>by
  let(Y,W):=L.base.there j o e (Z j);show⟨Y,a4 j Y W (ad j o e J)⟩
 let trk:∀j u,H j>u->∃o,(PySem.W.hideAll s.heap (mC (envOfC U scope D.heap.objs.size f O::F))).get? j>o:=λj u e=>by
  let(o,bb):=L.hok.alive e;show⟨o,a4 j o bb λV=>by rw[a8 j V] at e;cases e⟩
 let ap:∀j,j∈mC F->∀o,s.heap.get? j>o->∃sl,h'.get? j>{o with slots:=sl}:=λj J o e=>by
  let b5:j∈mC (envOfC U scope D.heap.objs.size f O::F):=by rw[a9];show wA _ J
  let(_,ah,ab,b3):=a3.mem b5;rw[e] at ab;cases ab;show bl j o (mk.keeps j o e) b3
 show(a5,cls,H,_,rfl,L.os,L.bare,?_,L.hok.flown trk (λj o q=>PySem.W.of_hideAll _ q) a1.1,(⟨_,a1⟩,trk,stay,ac,bd),b2);show(λj o e n J ο=>a1.1 j o (stay j o e n J),λj o e n J ο=>?_,λj o e n ο=>L.base.free j o e n (Z j),λj o e ο=>?_,L.base.tups,L.base.frzs,L.base.tbls)
 .let(sl,W):=L.base.slot j o e n J (Z j);let(be,a2):=ap j J _ W;show⟨be,a2⟩
 .by_cases J:j∈mC F
  .let(Y,W):=L.base.there j o e (Z j);let(sl,a2):=ap j J _ W;show⟨_,a2⟩
  .let(Y,W):=ac j o e J;show⟨Y,a1.1 j Y W⟩
nonrec abbrev XD:!Value:=[.type "ValueError",.type "Exception",.type "BaseException",.type "object"]
structure XC (K:PySem.W.Frag) (mg:Str->Option Value) (x:Str) (C:Addr):Prop where
 m:mg x=↑C
 ex:PySem.W.excIn K C XD "ValueError.__new__"=true
set_option tactic.hygienic true in
theorem V9 {K:PySem.W.Frag} {h:Heap} {C:Addr} {l:!Value} {id:String} (hin:K.In h) (q:PySem.W.excIn K C l id=true):
  ∃bm N nm qn bs hdct sn sub ab col dd k0 k1 k2 k3 k5 mN,h.get? C>(excClassObj nm qn C N bs bm hdct sn sub ab col dd k0 k1 k2 k3 k5 id)/\h.Ns N mN/\mN "__init__"=none/\OwnTail h l bm:=by
 unfold PySem.W.excIn at q
 split at q
 case h_2=>cases q
 case h_1 dd cd sl ho=>
  split at q
  case h_2=>cases q
  case h_1 C' bm k0 k1 k2 k3 n k5 hm hs=>
   rw[IA,IA,IA,IA,IA] at q;let(((((q1,q2),q3),q4),q5),q6):=q;let e1:=ZA.mp q1;let e2:=ZA.mp q2;let e6:=ZA.mp q6;subst e1 e2;let(nm,bs,mro,ns,qn,hd,sn,sub,ab,col,del):=cd;let e3:del=false:=by
    cases del with
    |false=>rfl
    |true=>cases q3
   let hm':mro=.ref C'::bm:=hm;subst e3 hm';obtain⟨l'⟩:=sl;let hs':l'=[k0,k1,k2,k3,some (.builtin n),k5]:=hs;subst hs';show(bm,ns,nm,qn,bs,hd,sn,sub,ab,col,dd,k0,k1,k2,k3,k5,_,hin _ _ ho,.of_isNs (PySem.W.isNs_of_in hin q5),PySem.W.nsMap_none_of_in hin q5 e6,PySem.W.tail_of_in hin q4)
def WF (Kx:XKs) (C:Addr) (t:TA):TS:=λο σ H=>t σ H λvs H1=>vs.length<=sizeLine/\Kx (.ref C) σ H1
theorem JG {X:Cx} {J:XKs} {C:Addr} {x:Str} {ac F pos:Pos} {e:Expr} {j:!Expr} {t:TA} (a9:XR X J) (a1:X.calm=true) (c:XC X.K X.mg x C) (a0:PA X (e::j) t) (a3:Gl X x:=by rfl) (a2:(x == ("__debug__":Str))=false:=by decide)
  (L:starEach (e::j) X.env=(false,eval e X.env)::starEach j X.env:=by rfl) (a7:(backTo F (starEach j X.env)).any (·.1)=false:=by rfl):
  PS X (.Raise (some (.Call (.Name x ac) (e::j) [] F)) none pos) (WF J C t):=by
 intro O s U H b1 B h;let(bm,N,nm,ad,bs,hdct,sn,sub,ab,col,dd,k0,k1,k2,k3,k5,mN,Y,Z,a6,T):=V9 B.mod.kin c.ex;show wpAny_Raise_call_subT (C:=C) (nm:=nm) (q:=ad) (N:=N) (bs:=bs) (bm:=bm) (hdct:=hdct) (sn:=sn) (sub:=sub) (ab:=ab) (col:=col) (dd:=dd) (k0:=k0) (k1:=k1) (k2:=k2) (k3:=k3) (k5:=k5) (mN:=mN) PySem.F.excBase_ValueError (T.hasType PySem.F.excBase_ValueError.hasBase) (B.ok.hd a1) (by rw[L];change (false || (backTo F (starEach j X.env)).any (·.1))=false;rw[a7];rfl) a6
  (UI B a3 c.m ⟨rfl,?_⟩ a2)
 let q:=a0 F O s U H _ B h;rw[L] at q ⊢;show Calls.evalArgs_plain (EA q (λus ah a8=>?_) λο ο ap=>ap);let(vs,V,D,r,a5,a4):=a8;show(rfl,by rw[<-r.length];show a5,D.bk _ _ Y,Z.keeps D.bk,T.keeps D.bk,λh' W mk=>a9 O U V ah h' W (.ref C) us D mk a4)
theorem rB.flown {X:Cx} {a3:!(Addr×Obj)} {a5:St} {H a1:Hp} {s s':Shared} {B W:Heap} {b1:Addr} {cls:Value} (U:rB X a3 a5 H s) (D:rB X a3 a5 a1 s') (V:ZR B X.stack s.heap H a1 s'.heap b1 cls)
  (st:B.StaysIn W) (a4:s'.heap.UpToSlots W):rB X a3 a5 a1 {s' with heap:=W}:=by
 let(a0,b2):=V.fl;let a2:∀j,j∉X.fs->j≠X.env.locals->j∉mC X.stack:=λj h1 h2 J=>by
  let q||q:=iA.mp (U.stkSub j J)
  .show h2 q
  .show h1 q
 let a9:∀j o,X.s₀.heap.get? j>o->j≠X.env.locals:=λj o e=>uA (fA (dA e) U.ok.above);let a6:∀{c:Addr} {v:Option Value},s'.heap.IsCell c v->W.IsCell c v:=λ{c v} ⟨o,b5,Z⟩=>by
  let(sl,e):=a4 c o b5 λvs J=>by rw[Z] at J;cases J
  show(_,e,Z)
 let ah:∀j,j∈X.fs->∀o,s'.heap.get? j>o->∃sl,W.get? j>{o with slots:=sl}:=λj F o e=>by
  let(_,bd,a7,Z):=D.funs.mem F;rw[e] at a7;cases a7;show a4 j o e Z
 show(D.ok,D.os,D.bare,(λj o e n F O=>?_,λj o e n F O=>?_,D.base.free,λj o e O=>?_,D.base.tups,D.base.frzs,D.base.tbls),?_,λx c e=>?_,D.free,D.freeC,λY a8=>?_,D.hok.flown V.trk b2.1 st,D.len)
 .show st j o (V.kept j o (U.base.keep j o e n F O) (U.base.free j o e n O) (a2 j F (a9 j o e)))
 .let(sl,L):=D.base.slot j o e n F O;let(bc,N):=ah j F _ L;show⟨bc,N⟩
 .by_cases F:j∈X.fs
  .let(ac,L):=D.base.there j o e O;let(sl,N):=ah j F _ L;show⟨_,N⟩
  .let(ac,L):=U.base.there j o e O;let(ad,N):=V.alive j ac L (a2 j F (a9 j o e));show⟨ad,st j ad N⟩
 .let(m,b4,b3):=D.loc;show(m,a4.ns b4,λi x v L N ap=>?_);let(u,r,l):=b3 i x v L N ap;show(u,r,?_);let l||(k,c,e,J):=l
  .show .inl l
  .show .inr (k,c,e,a6 J)
 .let(v,J):=D.cell x c e;show⟨v,a6 J⟩
 .let(e,n,ne,ab,d):=U.pin Y a8;let(_,bb,_,_,_):=D.pin Y a8;show(st _ _ (V.kept Y.1 Y.2 e n (a2 Y.1 ab ne)),bb,ne,ab,d)
def lD (a:Addr) (C:Addr):HO:=.ext λh=>∃o vs,h.get? a>o/\o.cls=.ref C/\o.data=.fields vs/\vs[2]?>.none
theorem rB.track {X:Cx} {L:!(Addr×Obj)} {U:St} {H:Hp} {s:Shared} {a:Addr} {u:HO} (j:rB X L U H s) (D:H a=none) (W:a≠X.env.locals) (h0:∀o,X.s₀.heap.get? a>o->a∈X.ex)
  (Y:∀x c,X.env.cells.lookup x>c->c≠a) (Z:∀J∈X.pn++L,J.1≠a) (ok:∀V,LB X.prog X.w V s.heap a u):rB X L U (uB H a u) s:=by
 show(j.ok,j.os,j.bare,(j.base.keep,j.base.slot,λB o e n O=>?_,j.base.there,λB xs e=>?_,λB o xs e=>?_,λB a0 e=>?_),j.loc,j.cell,?_,λx c e=>?_,λJ N=>?_,λB o e=>?_,j.len)
 .let F:B≠a:=λa1=>O (by rw[a1] at e ⊢;show h0 o e);rw[IB F];show j.base.free B o e n O
 .let q:=j.base.tups B xs e;rw[IB (NC q D)];show q
 .let q:=j.base.frzs B o xs e;rw[IB (NC q D)];show q
 .let(more,q):=j.base.tbls B a0 e;show⟨more,by rw[IB (NC q D)];show q⟩
 .rw[IB (Ne.symm W)];show j.free
 .rw[IB (Y x c e)];show j.freeC x c e
 .let(e,n,r):=j.pin J N;show(e,by rw[IB (Z J N)];show n,r)
 .by_cases F:B=a
  .subst F;rw[KB] at e;cases e;show ok _
  .rw[IB F] at e;show (j.hok B o e).stay (λc v ο q=>q) (λc q=>by rw[IB (NC q D)];show q) λc xs q=>by rw[IB (NC q D)];show q
theorem rB.nameGone {X:Cx} {a3:!(Addr×Obj)} {Z:St} {H:Hp} {s:Shared} {i:Nat} {n:Str} {pos:Pos} {M:Model} {A:Around} {E:Value->Shared->Prop} {Q:Unit->Shared->Prop} (B:rB X a3 Z H s) (a6:X.N.Nodup) (a0:X.N[i]?>n)
  (a9:X.env.kindOf n>.local) (h:∀s',rB X a3 (Z.set i none) H s'->Q ⟨⟩ s'):wpAny M A (do bindName X.env n .none;unbindBehindTheSuite X.env n pos) Q E s:=by
 let(m,a1,ad):=id B.loc;let a7:(X.env.scope.kind == .class || (X.env.scope.kind == .module&&X.env.locals != X.env.globals))=false:=by rw[B.ok.kind];rfl
 let cne:=B.cne;let a8:i < Z.length:=by rw[B.len];show (FA.mp a0).1
 show wpAny_nameGoes_keeps a9 a1 a7 λh' v ab F=>?_;let(bb,_,_,b5,_):=id a1;show h _ (B.ok,B.os,B.bare,(λD o e n V N=>?_,λD o e n V N=>?_,B.base.free,λD o e N=>?_,B.base.tups,B.base.frzs,B.base.tbls),(_,ab,λj L b4 J O a5=>?_),λL c e=>?_,B.free,B.freeC,λa2 ac=>?_,λD b1 e=>?_,by simpa using B.len)
 .show (F.2 D (uA (fA (dA e) B.ok.above))).trans (B.base.keep D o e n V N)
 .let(sl,J):=B.base.slot D o e n V N;show⟨sl,(F.2 D (uA (fA (dA e) B.ok.above))).trans J⟩
 .let(ap,J):=B.base.there D o e N;show⟨ap,(F.2 D (uA (fA (dA e) B.ok.above))).trans J⟩
 .by_cases W:j=i
  .subst W;rw[List.getElem?_set_self a8] at O;cases O
  .rw[List.getElem?_set_ne (Ne.symm W)] at O;let(b3,b2,q):=ad j L b4 J O a5;show(b3,b2,?_);let(k,e)||(k,c,e,Y):=q
   .show .inl ⟨k,?_⟩;have:L≠n:=λe=>W (fT a6 J (e ▸ a0));simp[this,e]
   .show .inr (k,c,e,Y.sameBut F (cne L c e))
 .let(a4,Y):=B.cell L c e;show⟨a4,Y.sameBut F (cne L c e)⟩
 .let(e,n,ne,ah,d):=B.pin a2 ac;show((F.2 a2.1 ne).trans e,n,ne,ah,d)
 .show (B.hok D b1 e).stay (λc a4 U q=>(F.2 c ?_).trans q) (λο q=>q) λο ο q=>q;rintro rfl;let rfl||U:=U
  .rw[B.free] at e;cases e
  .rw[B.free] at U;cases U
structure XH (K:PySem.W.Frag) (mg:Str->Option Value) (x:Str) (D:Addr):Prop where
 m:mg x=↑D
 ty:PySem.W.typeIn K (.ref D)>(.type "type")
 cl:∃cd,PySem.W.clsIn K D>cd
 be:PySem.W.mroIn K D (.type "BaseException")>true
def QE (K:PySem.W.Frag) (C D:Addr):Prop:=PySem.W.mroIn K C (.ref D)>true
set_option tactic.hygienic true in
theorem W9 {K:PySem.W.Frag} {M:Model} {A:Around} {E:Value->Shared->Prop} {Q:Bool->Shared->Prop} {s:Shared} {mg:Str->Option Value} {x:Str} {ea C D:Addr} {o:Obj} (hin:K.In s.heap) (c:XH K mg x D) (sub:QE K C D)
  (ho:s.heap.get? ea>o) (hcl:o.cls=.ref C) (q:Q true s):wpAny M A (excMatches (.ref ea) (.ref D)) Q E s:=by
 let(cd,hcd):=c.cl;let L1:=PySem.W.looks_typeIn (M:=M) hin c.ty;let L2':=PySem.W.looks_mroIn (M:=M) hin c.be;let L3:=PySem.W.looks_mroIn (M:=M) hin sub;let L4:PySem.W.Looks M s.heap (typeOf (.ref ea)) (.ref C):=hcl ▸ (PySem.W.Looks.ld ho).andThen .now;let L5:PySem.W.Looks M s.heap (isType (.ref D)) true:=by
  unfold PySem.W.clsIn at hcd
  split at hcd
  .rename_i ho';intro A' Q' E' s' k q';unfold isType loadHead;show aA (wpAny_loadPart (k _ _ (hin _ _ ho')) (qA q'))
  .cases hcd
 let L6:PySem.W.Looks M s.heap (isExcClass (.ref D)) true:=L5.andThen L2';let(h,g,d,t,os):=s;let f:=tc_notTuple;unfold excMatches isInstance;show aA (aA (L1.at ?_));rw[f];show qA ?_;simp only[NA,VA];show aA (qA ?_);rw[List.forIn_cons];show aA (aA (aA (L6.at ?_)));simp only[Bool.not_true,NA,VA];show qA ?_;dsimp only;rw[List.forIn_nil];show qA ?_;show aA (L4.at ?_);rw[List.forIn_cons];show aA (aA (aA (L3.at ?_)));simp only[if_true];show qA ?_;dsimp only;show qA ?_;show qA q
def wD:Option HO->String
 |some (.lst _)=>"list"
 |some (.frz _ (.lst _))=>"list"
 |some (.tup _)=>"tuple"
 |some (.dK _)=>"dict"
 |some (.dT _)=>"dict"
 |_=>""
def kd (H:Hp):V->String
 |.non=>"NoneType"
 |.bl _=>"bool"
 |.int _=>"int"
 |.str _=>"str"
 |.ref a=>wD (H a)
 |_=>""
def Kn (H:Hp) (x:V):Prop:=kd H x≠""
def GD (n:String) (H:Hp) (x:V):Bool:=kd H x == n || (kd H x == "bool"&&n == "int")
theorem zM {K:PySem.W.Frag} {H:Hp} {x:V} (h:Kn H x):gD K H x (.type (kd H x)):=by
 cases x with
 |non=>show .non
 |bl j=>show .bl j
 |int i=>show .int i
 |str s=>show .str s
 |ref a=>
  let h:wD (H a)≠"":=h;change gD K H (.ref a) (.type (wD (H a)));cases e:H a with
  |none=>rw[e] at h;show absurd rfl h
  |some o=>
   rw[e] at h;cases o with
   |lst xs=>show .lst e
   |tup xs=>show .tup e
   |dK k=>show .dK e
   |dT k=>show .dT e
   |frz q u=>
    cases u with
    |lst xs=>show .frz e
    |_=>show absurd rfl h
   |_=>show absurd rfl h
 |_=>show absurd rfl h
theorem FX (o:Option HO):wD o=""\/wD o="list"\/wD o="tuple"\/wD o="dict":=by
 unfold wD
 split<;>simp
theorem Kn.cases {H:Hp} {x:V} (h:Kn H x):kd H x="NoneType"\/kd H x="bool"\/kd H x="int"\/kd H x="str"\/kd H x="list"\/kd H x="tuple"\/kd H x="dict":=by
 cases x with
 |ref a=>
  let h:wD (H a)≠"":=h;change wD (H a)=_\/wD (H a)=_\/wD (H a)=_\/wD (H a)=_\/wD (H a)=_\/wD (H a)=_\/wD (H a)=_;let e||e||e||e:=FX (H a)
  .show absurd e h
  .show .inr (.inr (.inr (.inr (.inl e))))
  .show .inr (.inr (.inr (.inr (.inr (.inl e)))))
  .show .inr (.inr (.inr (.inr (.inr (.inr e)))))
 |non=>show .inl rfl
 |bl b=>show .inr (.inl rfl)
 |int i=>show .inr (.inr (.inl rfl))
 |str z=>show .inr (.inr (.inr (.inl rfl)))
 |_=>show absurd rfl h
theorem X9 (K:PySem.W.Frag):∀k∈["NoneType","bool","int","str","list","tuple","dict"],∀n∈["bool","int","str","list","tuple","dict"],PySem.W.kitOne K (.type k) (.type n)>(k == n || (k == "bool"&&n == "int")):=by
 let e:∀k∈["NoneType","bool","int","str","list","tuple","dict"],∀n∈["bool","int","str","list","tuple","dict"],(if (Value.type k == Value.type n)=true then some true else if PySem.W.kitMeta n=true then (fastBuiltinMro k).map (·.contains (.type n)) else none)>(k == n || (k == "bool"&&n == "int")):=∅;show λk j n q=>e k j n q
theorem gF {X:Cx}:TC X (.builtin "isinstance") (λxs H Q=>∃x n,xs=[x,.ty n]/\n∈["bool","int","str","list","tuple","dict"]/\Kn H x/\Q (.bl (GD n H x)) H):=by
 intro O s U H xs us Q B r h;let(x,n,rfl,F,D,q):=h;cases r with
 |cons J j=>
  cases j with
  |cons L j=>
   cases j;cases L;show b9 B J (zM D) (X9 X.K _ ?_ n F) λN=>(.bl _,H,B.tok N,rfl,q)
   let e||e||e||e||e||e||e:=D.cases<;>rw[e]<;>simp
theorem oJ {X:Cx}:WW X (unaryOp .USub) (rU λi=>.int (Neg.neg i)):=by
 intro D s F H x v Q j B h;let(i,rfl,q):=h;let(t,rfl):=B;show neg_int (.int _,H,j.tok _,⟨_,rfl⟩,q)
theorem pJ {H:Hp} {i:Int}:Kn H (.int i)↔True:=⟨λο=>trivial,λο=>(by decide:"int"≠"")⟩
theorem AM {H:Hp} {i:Bool}:Kn H (.bl i)↔True:=⟨λο=>trivial,λο=>(by decide:"bool"≠"")⟩
theorem qJ {H:Hp} {i:Str}:Kn H (.str i)↔True:=⟨λο=>trivial,λο=>(by decide:"str"≠"")⟩
theorem AL {H:Hp} {a:Addr} {xs:!V} (h:H a>(.lst xs)):Kn H (.ref a):=λz=>by
 let z:wD (H a)="":=z;rw[h] at z;show absurd z (show "list"≠"" by decide)
theorem BL {H:Hp} {a:Addr} {xs:!V} (h:H a>(.tup xs)):Kn H (.ref a):=λz=>by
 let z:wD (H a)="":=z;rw[h] at z;show absurd z (show "tuple"≠"" by decide)
theorem rJ {CX:CXT} {P:Program} {w:World} {K:PySem.W.Frag} {mg:Str->Option Value} {base:Heap} {N:!Str} {B:Str} {scope:Scope} {f:Addr} {j:Value} {A:Around} {q:!Env} {s:Shared} {H:Hp} {E:XK}:
 (rC CX P w K mg base N B scope f j A q s H E).K=K:=rfl
def HD:V->Bool
 |.int _=>true
 |_=>false
def DC (x:V) (l h:Int):Bool:=match x with
 |.int i=>decide (l<=i)&&decide (i<=h)
 |_=>false
theorem sJ {i l h:Int}:DC (.int i) l h=(decide (l<=i)&&decide (i<=h)):=rfl
theorem Y9 {H:Hp} {x:V} (h:Kn H x):(GD "int" H x&& not (GD "bool" H x))=HD x:=by
 cases x with
 |ref a=>
  let h:wD (H a)≠"":=h;let e:kd H (.ref a)=wD (H a):=rfl;unfold GD;rw[e];let e||e||e||e:=FX (H a)<;>rw[e]<;>first|rfl|exact absurd e h
 |_=>first|rfl|exact absurd rfl h
inductive GX (t u:TS):Type where
 |mk:GX t u
def BM (t u:TS) (_:GX t u):TS:=λD σ H=>∃M:St->Hp->Prop,t {D with nx:=M} σ H/\∀σ' H',M σ' H'->u D σ' H'
theorem ID {X:Cx} {st:Stmt} {rest:!Stmt} {t u:TS} (h1:PS X st t) (h2:DD X rest u):DD X (st::rest) (BM t u .mk):=by
 intro D s U H j J h;let(M,h,N):=h;show wpAny_execs_cons (NB (h1 D s U H {j with nx:=M} J h) λf O q=>?_);cases f with
 |next=>
  let(F,B,L,q):=q;show h2 D O F B j L (N F B q)
 |ret v=>show q
 |brk=>show q
 |cont=>show q
def KG:Option HO->Option (!V)
 |some (.lst xs)=>some xs
 |some (.frz _ (.lst xs))=>some xs
 |_=>none
def LG:Option HO->Option (!V)
 |some (.tup xs)=>some xs
 |some (.frz _ (.tup xs))=>some xs
 |_=>none
theorem Z9 {xs:!V}:KG (some (.lst xs))>xs:=rfl
theorem aa {xs:!V}:LG (some (.tup xs))>xs:=rfl
set_option tactic.hygienic true in
theorem ba {K:PySem.W.Frag} {H:Hp} {a:Addr} {xs:!V} (h:KG (H a)>xs):RB K H a xs:=by
 unfold KG at h
 split at h
 .rename_i e;cases h;show .inl (.inl e)
 .rename_i e;cases h;show .inl (.inr ⟨_,e⟩)
 .cases h
set_option tactic.hygienic true in
theorem da {K:PySem.W.Frag} {H:Hp} {a:Addr} {xs:!V} (h:LG (H a)>xs):ED K H a xs:=by
 unfold LG at h
 split at h
 .rename_i e;cases h;show .inl (.inl e)
 .rename_i e;cases h;show .inl (.inr ⟨_,e⟩)
 .cases h
def rIxH:R2:=λx y H Q=>∃p xs i v,x=.ref p/\y=.int i/\KG (H p)>xs/\tD xs i>v/\Q v H
theorem aS {X:Cx}:nG X rIxH:=by
 intro Y W O s a1 H x a0 v u Q j U V h L;let(N,xs,i,Z,B,D,F,J,q):=h;show FE Y W O s a1 H x a0 v u Q j U V (N,xs,i,Z,B,D,ba F,J,q) L
theorem CM {xs:!V} {i:Int} {P:V->Prop} (h0:0<=i) (h1:i < xs.length) (h:∀v∈xs,P v):∃v,tD xs i>v/\P v:=by
 let j:i.toNat < xs.length:=⋯;show(xs[i.toNat],?_,h _ (List.getElem_mem j));let e:tD xs ((i.toNat:Nat):Int)>xs[i.toNat]:=XE (by simp[j]);rw[show ((i.toNat:Nat):Int)=i by omega] at e;show e
theorem ja {i j:Int}:eF (.int i) (.int j)=true:=rfl
theorem ka {i j:Bool}:eF (.bl i) (.bl j)=true:=rfl
theorem ma {i j:Str}:eF (.str i) (.str j)=true:=rfl
theorem NT:Int.natAbs 10=10:=rfl
theorem ZB {H:Hp}:vB H H:=λο ο h=>h
theorem wC {H j:Hp} {B:Addr} {o:HO} (s:vB H j) (h:j B=none):vB H (uB j B o):=λD u e=>by
 let q:=s D u e;rw[IB (NC q h)];show q
inductive iF (g:TG) (tb:TS):Type where
 |mk:iF g tb
def MG (g:TG) (tb:TS) (_:iF g tb) (J:It):TS:=λD σ H=>∃W:Nat->Nat->St->Hp->Prop,(∃m,W 0 m σ H)/\∀i m σ H,W i m σ H->
 (J.stop i H/\D.nx σ H)\/(J.go i H/\∃N:St->Hp->Prop,(∀σ' H',N σ' H'->∃m',m' < m/\W (i+1) m' σ' H')/\∀x H',J.yld i H x H'->g x σ H' λσ2 H2=>tb {D with nx:=N,ct:=N,bk:=D.nx} σ2 H2)
def LH (wi:TI) (g:TG) (tb:TS) (h:iF g tb):TS:=λD σ H=>wi σ H λJ H1=>MG g tb h J D σ H1
theorem CL {X:Cx} {q j:Expr} {B:!Stmt} {F:TI} {g:TG} {D:TS} {pos:Pos} (U:PassesOwn (model X.prog X.w) X.A X.env X.xe) (L:X.calm=true) (O:PI X q j F) (N:PG X q g) (J:DD X B D)
 (V:∀x,foldedSetIterable j X.env x=pure x:=by intro _;rfl):PS X (.For q j B [] pos) (LH F g D .mk):=dJ U L O N J V
theorem bS {lo:Int} {n:Nat} {g:TG} {D:TS} {h:iF g D} {B:ZC} {j:St} {H:Hp} (q:Nat->St->Hp->Prop) (h0:q 0 j H)
 (L:∀i j H,i < n->q i j H->g (.int (lo+i)) j H λN F=>D {B with nx:=q (i+1),ct:=q (i+1),bk:=B.nx} N F) (J:∀j H,q n j H->B.nx j H):MG g D h (zH lo n) B j H:=y8 q h0 L J
theorem HX {K:PySem.W.Frag} {a:Addr} {xs:!V} {g:TG} {D:TS} {h:iF g D} {B:ZC} {j:St} {H:Hp} (q:Nat->St->Hp->Prop) (h0:q 0 j H) (L:∀i j H,i<=xs.length->q i j H->RB K H a xs)
 (N:∀i x j H,xs[i]?>x->q i j H->g x j H λO F=>D {B with nx:=q (i+1),ct:=q (i+1),bk:=B.nx} O F) (J:∀j H,q xs.length j H->B.nx j H):MG g D h (cJ K a) B j H:=x8 q h0 L N J
def pw (n:Int):Int:=2 ^ n.toNat
theorem IX (n:Nat):pw (n:Int)=2 ^ n:=by unfold pw;rw[QA]
theorem cS (n:Nat):pw ((n+1:Nat):Int)=pw (n:Int) * 2:=by rw[IX,IX,Int.pow_succ]
theorem JX (n:Int):1<=pw n:=by
 unfold pw;generalize n.toNat=k
 induction k with
 |zero=>decide
 |succ k j=>rw[Int.pow_succ];omega
theorem tJ {n m : Nat} (h : n <= m) : pw (n : Int) <= pw (m : Int) := by
  induction m with
  | zero => have : n = 0 := by omega
            subst this; show Int.le_refl _
  | succ k ih =>
    let e||e:=(by omega : n <= k \/ n = k + 1)
    . have := ih e; have := JX k; rw [cS]; omega
    . subst e; show Int.le_refl _
theorem uJ {x j:Int} (h1:2<=x) (h2:x<=3) (h3:1<=j) (q:j<=8):2<=x * j/\x * j<=24:=by
 let e||e:=(by omega:x=2\/x=3)<;>subst e<;>omega
set_option tactic.hygienic true in
theorem LX {f:Str} {v:V} {n:Nat}:∀{fs:!(Str×V)},fs.length < n->(wB f v fs).length < n+1
 |[],_=>by change 1 < n+1;rename_i h;simp at h;omega
 |(g,x)::r,h=>by
  unfold wB
  split
  .show Nat.lt_succ_of_lt h
  .cases n with
   |zero=>show absurd h (Nat.not_lt_zero _)
   |succ m=>show Nat.succ_lt_succ (LX (Nat.lt_of_succ_lt_succ h))
theorem NG {H:Hp} {x j:Addr} {o:HO} (D:H x=none) (q:H j=none) (B:j≠x):vB H (uB (uB H j (.own x)) x o):=
 wC (wC ZB q) (by rw[IB (Ne.symm B)];show D)
theorem pG {q:Type} {a:q} {r:!q}:tD (a::r) 0>a:=XE (j:=0) rfl
theorem qG {B:Type} {a q:B} {r:!B}:tD (a::q::r) 1>q:=XE (j:=1) rfl
theorem OG {q:Type} {a B c:q} {r:!q}:tD (a::B::c::r) 2>c:=XE (j:=2) rfl
theorem OT {q:Type} {a B c d:q} {r:!q}:tD (a::B::c::d::r) 3>d:=XE (j:=3) rfl
theorem MX {H:Hp} {a:Addr} {xs:!V} (h:H a>(.tup xs)):GD "tuple" H (.ref a)=true:=by
 unfold GD;rw[show kd H (.ref a)=wD (H a) from rfl,h];rfl
theorem NX {H:Hp} {a:Addr} {xs:!V} (h:H a>(.lst xs)):GD "list" H (.ref a)=true:=by
 unfold GD;rw[show kd H (.ref a)=wD (H a) from rfl,h];rfl
section
variable {X:Cx} {pins pins2:!(Addr×Obj)} {σ:St} {H:Hp} {s:Shared} {E':Value->Shared->Prop}
theorem Cx.Ok.re {pn:!(Addr×Obj)} (ok:X.Ok):({X with xe:=E',pn:=pn}:Cx).Ok:=
 (ok.mod,ok.kind,ok.glob,ok.blt,ok.above,ok.inj,ok.has,ok.cab,ok.hd,ok.frames,ok.stk,ok.exf,ok.bs,ok.bsz,ok.noex,ok.exfs,ok.funs,ok.frf)
theorem rB.re (j:rB X pins σ H s):rB {X with xe:=E',pn:=X.pn++pins} [] σ H s:=
 (j.ok.re,j.os,j.bare,j.base,j.loc,j.cell,j.free,j.freeC,λB q=>j.pin B (by rw[List.append_nil] at q;show q),j.hok,j.len)
theorem rB.unre (ok:X.Ok) (j:rB {X with xe:=E',pn:=X.pn++pins} pins2 σ H s):rB X pins σ H s:=
 (ok,j.os,j.bare,j.base,j.loc,j.cell,j.free,j.freeC,λB q=>j.pin B (List.mem_append_left _ q),j.hok,j.len)
theorem rB.marked {v : Option Value} (I : rB X pins σ H s) : rB { X with A := X.A.mark v, calm := false, xe := E' } pins σ H s :=
  ((I.ok.mod, I.ok.kind, I.ok.glob, I.ok.blt, I.ok.above, I.ok.inj, I.ok.has, I.ok.cab, λz => Bool.noConfusion z, I.ok.frames, I.ok.stk, I.ok.exf, I.ok.bs, I.ok.bsz, I.ok.noex, I.ok.exfs, I.ok.funs, I.ok.frf),
    I.os, I.bare, I.base, I.loc, I.cell, I.free, I.freeC, I.pin, I.hok, I.len)
theorem rB.unmarked {v:Option Value} (ok:X.Ok) (I:rB {X with A:=X.A.mark v,calm:=false,xe:=E'} pins σ H s):rB X pins σ H s:=
 (ok,I.os,I.bare,I.base,I.loc,I.cell,I.free,I.freeC,I.pin,I.hok,I.len)
end
def XF (K:PySem.W.Frag) (D:Addr) (i:Nat) (tb:XKs->TS) (to th:TS):TS:=λDn σ H=>
 tb (λcls σ' H'=>∃C,cls=.ref C/\QE K C D/\∀ea,H' ea=none->th {nx:=λσ2 H2=>Dn.nx (σ2.set i none) H2,rt:=Dn.rt,bk:=λσ2 H2=>Dn.bk (σ2.set i none) H2,ct:=λσ2 H2=>Dn.ct (σ2.set i none) H2}
  (σ'.set i (↑ea)) (uB H' ea (lD ea C))) {Dn with nx:=to Dn} σ H
theorem OX {X:Cx} {i:Nat} {n x:Str} {b3:Addr} {c3 dk:!Stmt} {b5:Stmt} {be:!Stmt} {de bc pos:Pos} {dr:XKs->TS} {to bm:TS}
  (a9:X.N.Nodup) (ac:X.N[i]?>n) (a6:X.env.kindOf n>.local) (c:XH X.K X.mg x b3)
  (ek:∀(b4:Value->Shared->Prop) (pn:!(Addr×Obj)) (c2:XKs),PassesOwn (model X.prog X.w) X.A X.env b4->XW {X with xe:=b4,pn:=pn} c2->DD {X with xe:=b4,pn:=pn} c3 (dr c2))
  (b2:DD X dk to) (et:∀j:Addr,DD {X with A:=X.A.mark (↑j),calm:=false,xe:=λο ο=>False} (b5::be) bm)
  (eq:Gl X x:=by rfl) (f4:X.stack=X.env::X.outer:=by rfl) (eo:X.env.frame>X.env.locals:=by rfl) (en:(x == ("__debug__":Str))=false:=by decide):
  PS X (.Try c3 [.ExceptHandler (some (.Name x de)) (some n) (b5::be) bc] dk [] pos) (XF X.K b3 i dr to bm):=by
 intro O s ga H Dn L h;show wpAny_Try_except ?_;let g9:XW {X with xe:=(λe g3=>wpAny (model X.prog X.w) X.A (noteFrame e X.env) (λο g4=>wpAny (model X.prog X.w) X.A (setFlight e none) (λο bl=>
   wpAny (model X.prog X.w) X.A (handleBy e X.env [.ExceptHandler (some (.Name x de)) (some n) (b5::be) bc]) (SP X O Dn) X.xe bl) X.xe g4) X.xe g3),pn:=X.pn++O}
   (λcls J D=>∃C,cls=.ref C/\QE X.K C b3/\∀j,D j=none->bm {nx:=λU W=>Dn.nx (U.set i none) W,rt:=Dn.rt,bk:=λU W=>Dn.bk (U.set i none) W,ct:=λU W=>Dn.ct (U.set i none) W}
    (J.set i (↑j)) (uB D j (lD j C))):=by
  intro go U W dp s' j cls D B e2 g0 ea un f2 V bb;let(C,rfl,f5,bb):=bb;let a3:rB X O U W dp:=e2.unre L.ok;let c0:rB X O U D s':=a3.call' (s':=s') (ch:=[]) g0 un f2 ea (λah F=>absurd F (by simp));let V:ZR B X.stack dp.heap W D s'.heap j (.ref C):=V;let(a0,cs):=id V.fl;let d1:=L.ok.frames;rw[f4] at d1 cs;change wpAny (model X.prog X.w) X.A (noteFrame (.ref j) X.env) _ X.xe s';show UF d1 eo cs V.nc λej b1 dt f6=>?_;show jE (s:={s' with heap:=ej}) b1.1 b1.2.2.1 b1.2.2.2 f6 b1.2.1 λca a5 e0 f7=>?_;let c1:rB X O U D {s' with heap:=ca}:=rB.flown a3 c0 V a5.1 (dt.trans e0);let(gf,gs,f1,f0,gd,_):=a5.first;show wpAny_handleBy_cons (codeAny_handlers_test (UI (X:={X with A:=X.A.mark (↑j),calm:=false,xe:=λο ο=>False}) (c1.marked (v:=↑j)) eq c.m ?_ en)) (by intro q;cases q);show W9 (x:=x) (mg:=X.mg) c1.kIn c f5 f1 f0 ?_;show codeAny_handlers_suite_as ?_;show jE (s:={s' with heap:=ca}) a5.1 a5.2.2.1 a5.2.2.2.at f7 a5.2.1 λcd ap g5 fa=>?_;let ad:rB X O U D {s' with heap:=cd}:=rB.flown a3 c0 V ap.1 ((dt.trans e0).trans g5);let(dh,e1,a7,em,ab,_):=ap.first;let g7:e1[2]?>.none:=by
   let(fl,gr,g',d',g6):=fa;rw[a7] at g';cases g';rw[ab] at d';cases d';show g6
  let d2:D j=none:=by
   cases F:D j with
   |none=>rfl
   |some u=>
    let(o,e):=V.trk j u F;rw[ap.2.1] at e;cases e
  let dd:∀ah o,B.get? ah>o->ah≠j:=λah o e F=>by rw[F,ap.2.1] at e;cases e
  let e3:rB X O U (uB D j (lD j C)) {s' with heap:=cd}:=by
   show ad.track d2 ?_ ?_ ?_ ?_ ?_
   .intro F;let(m,(ge,gc,ep,d3,ck,_),_):=ad.loc;rw[<-F] at d3;let e:=a7.symm.trans d3;cases e;rw[ab] at ck;cases ck
   .intro o e;by_cases db:j∈X.ex
    .show db
    .exfalso;by_cases co:j∈X.fs
     .let(_,fl,ey,ew):=ad.funs.mem co;let e:=a7.symm.trans ey;cases e;show ew _ ab
     .let(fn,ec):=a3.base.there j o e db;let ev:j≠X.env.locals:=uA (fA (dA e) L.ok.above);let(fr,ef):=V.alive j fn ec λF=>by
       let q||q:=iA.mp (a3.stkSub j F)
       .show ev q
       .show co q
      show dd j fr ef rfl
   .intro g8 eb e F;let(v,o,b2,cl):=ad.cell g8 eb e;rw[F] at b2;let e:=a7.symm.trans b2;cases e;rw[ab] at cl;cases cl
   .intro a8 f3;let(e,nn,ne,ff,_):=a3.pin a8 f3;show dd a8.1 a8.2 (V.kept a8.1 a8.2 e nn λF=>by
     let q||q:=iA.mp (a3.stkSub a8.1 F)
     .show ne q
     .show ff q)
   .intro gb;show((dh,e1,a7,em,ab,g7),⟨dh,a7⟩,λh1 h2 ⟨o,vs,e5,e6,e7⟩ k=>(o,vs,k o e5,e6,e7))
  show iT e3 a9 ac (Or.inl a6) (v:=.ref j) rfl (λg1 e4=>?_) (.inr a6);show EA (et j O g1 _ _ _ (e4.marked (v:=↑j)) (bb j d2)) (λf g2 N=>?_) (λο ο F=>F.elim);change wpAny (model X.prog X.w) X.A (do bindName X.env n .none;unbindBehindTheSuite X.env n bc) (λο bl=>SP X O Dn f bl) X.xe g2;cases f with
  |next=>
   let(J,Y,a1,q):=N;show (a1.unmarked L.ok).nameGone a9 ac a6 λbd a2=>(_,Y,a2,q)
  |brk=>
   let(J,Y,a1,q):=N;show (a1.unmarked L.ok).nameGone a9 ac a6 λbd a2=>(_,Y,a2,q)
  |cont=>
   let(J,Y,a1,q):=N;show (a1.unmarked L.ok).nameGone a9 ac a6 λbd a2=>(_,Y,a2,q)
  |ret u=>
   let(v,J,Y,a1,r,q):=N;show (a1.unmarked L.ok).nameGone a9 ac a6 λbd a2=>(v,_,Y,a2,r,q)
 let q:=ek _ (X.pn++O) _ PassesOwn.looking g9 [] s ga H {Dn with nx:=to Dn} L.re h;show EA q (λf dl N=>?_) (λe dl N=>N);cases f with
 |next=>
  let(J,D,Z,a4):=N;show b2 O dl J D Dn (Z.unre L.ok) a4
 |brk=>let(J,D,Z,a4):=N;show(J,D,Z.unre L.ok,a4)
 |cont=>let(J,D,Z,a4):=N;show(J,D,Z.unre L.ok,a4)
 |ret u=>let(v,J,D,Z,r,a4):=N;show(v,J,D,Z.unre L.ok,r,a4)
end L2
namespace PySem.W
open PySem PySem.Spec PySem.Calls PyProof.Rows
open Builtin Builtin.ObjectAttr Builtin.Getset_descriptor
structure XIs (K:Frag) (C:Addr):Prop where
 g:findIn K (.ref C) "__getattribute__">(some (.builtin "BaseException.__getattribute__"))
 h:findIn K (.ref C) "__getattr__">none
 b:mroIn K C (.type "BaseException")>true
 d:hasDictIn K C=true
 a:findIn K (.ref C) "__class__">(some (.builtin "object.__class__"))
 n:specialIn K (.builtin "object.__class__") "__get__">(some (.builtin "getset_descriptor.__get__"))
 t:takesIn K (.builtin "object.__class__")>true
 m:mroIn K C (.type "object")>true
def ExcAt (e C:Addr) (h:Heap):Prop:=∃o,h.get? e>o/\o.cls=.ref C
section
variable {K:Frag} {e C:Addr}
theorem ExcAt.ty {M:Model} {h:Heap} (p:ExcAt e C h):Looks M h (typeOf (.ref e)) (.ref C):=by
 let(o,h1,h2):=p;show h2 ▸ (Looks.ld h1).andThen .now
set_option tactic.hygienic true in
theorem qa {M:Model} {h:Heap} (hin:K.In h) (x:XIs K C):Looks M h (isType (.ref C)) true:=by
 let(cd,hcd,_):=any_some x.d;unfold clsIn at hcd
 split at hcd
 .rename_i ho';intro A' Q' E' s' k q';unfold isType loadHead;show aA (wpAny_loadPart (k _ _ (hin _ _ ho')) (qA q'))
 .cases hcd
theorem DM {M:Model} {h:Heap} (j:K.In h) (x:XIs K C):Looks M h (find (.ref e) (.ref C) "__class__") (.bind (.builtin "getset_descriptor.__get__") (.builtin "object.__class__")):=by
 let q:=looks_findIn (M:=M) j x.a;let B:Looks M h (getOf (some (.builtin "object.__class__"))) (some (.builtin "getset_descriptor.__get__")):=looks_specialIn j x.n;let D:=looks_takesIn (M:=M) j x.t;show q.andThen (B.andThen ((show Looks M h (dataDescriptor? (some (.builtin "object.__class__")) (some (.builtin "getset_descriptor.__get__"))) (some _) from D.andThen .now).andThen (Looks.tag .now)))
variable {prog:Program} {w:World} {A:Around} {E:Value->Shared->Prop} {s:Shared}
theorem QT {j:Result->Shared->Prop} {D:Value} (q:K.In s.heap) (B:ExcAt e C s.heap) (x:XIs K C) (h:j (.ok (.ret (.ref C))) s):
  codeAny (model prog w) A (.call (.builtin "getset_descriptor.__get__") ⟨[.builtin "object.__class__",.ref e,D],[]⟩) j s:=by
 let(N,g,L,t,O):=s;let F:=B.ty (M:=model prog w);let J:=looks_mroIn (M:=model prog w) q x.m;show codeAny_call_builtin KF.slot_gs.plain KF.entry_gs (KF.slot_gs.check _ _ _ _ _ _ _ _ KF.type_class (KF.args_gs _ _ _) ?_);unfold Builtin.«getset_descriptor.__get__» descrGet;rw[dga_obj];show aA (qA ?_);unfold descrGetter descrCheckInstance descrNameAndClass isInstance;simp only[KF.owner_class]
 repeat lk
 show⟨Code.quiet_builtin _ ∅,codeAny_builtin KF.entry_class ?_⟩;unfold Builtin.«object.__class__» shownTypeOf
 repeat lk
 show h
theorem vJ {M:Model} {j:Value} {Q:Unit->Shared->Prop} (U:K.In s.heap) (W:ExcAt e C s.heap) (x:XIs K C) (V:Q ⟨⟩ s):wpAny M A (checkBuiltinCall "BaseException.__getattribute__" ⟨[.ref e,j],[]⟩) Q E s:=by
 let J:builtinKind "BaseException.__getattribute__">.slot:=∅;let L:splitId "BaseException.__getattribute__">("BaseException","__getattribute__"):=∅;let N:=F.args_bexc_ga (.ref e) j;let(O,g,d,t,Y):=s;let q:=W.ty (M:=M);let B:=looks_mroIn (M:=M) U x.b;let D:Looks M O (isInstance (.ref e) (.type "BaseException")) true:=q.andThen B;simp only[checkBuiltinCall,J,L];show aA (D.at ?_);simp only[Bool.not_true,NA,VA];show wpAny_of_eq N V
theorem wJ {B:Tok} {Q:Fin->Shared->Prop} (j:K.In s.heap) (q:ExcAt e C s.heap) (x:XIs K C) (L:Q (.done (.ret (.ref C))) s):wpAny (model prog w) A (Builtin.«object.__getattribute__» ⟨[.ref e,.str "__class__" B],[]⟩) Q E s:=by
 let(J,g,d,t,N):=s;let D:=q.ty (M:=model prog w);let F:=DM (M:=model prog w) (e:=e) j x;unfold Builtin.«object.__getattribute__»;show aA (qA (a:=(Value.ref e,[Value.str "__class__" B])) ?_);show aA (qA (a:=("__class__":Str)) ?_);show aA (D.at (aA (F.at ?_)));change wpAny _ _ (bindTo (Value.builtin "getset_descriptor.__get__") (Value.builtin "object.__class__") (Value.ref e) (Value.ref C)) _ _ _;unfold bindTo;dsimp only;show aA (wpAny_holding (wpAny_call (QT (s:=(J,g,d,t,N)) j q x ?_)));show qA L
theorem ua {Q:Option Value->Shared->Prop} (j:K.In s.heap) (q:ExcAt e C s.heap) (x:XIs K C) (h:Q (↑C) {s with toks:=s.toks+1}):wpAny (model prog w) A (getAttr? (.ref e) "__class__") Q E s:=by
 let(B,g,d,t,D):=s;let J:=q.ty (M:=model prog w);let L:=looks_findIn (M:=model prog w) j x.g;let N:=looks_findIn (M:=model prog w) j x.h;unfold getAttr? getAttrBy? getAttrBy;show aA (wpAny_mkText (aA (wpAny_attempt (wpAny_holding (aA (J.at (aA (L.at ?_))))))));let O:(Value.builtin "BaseException.__getattribute__" == Value.builtin "object.__getattribute__")=false:=∅;simp only[O,Bool.and_false,NA,VA];unfold getAttrByItsOwn hookBefore;rw[vA (show onTheHeap (Value.ref C)=true from rfl)];show aA (N.at (aA (wpAny_attempt (wpAny_holding ?_))));unfold callGetattribute boundAndCalled;simp only[Bool.false_and,NA,VA];show aA (wpAny_of_eq (PySem.F.attr_ValueError.ga.bind (.ref e)) ?_);show wpAny_call (codeAny_call_builtin PySem.F.attr_ValueError.ga.plain F.entry_bexc_ga (vJ (s:=(B,g,d,t+1,D)) j q x (wJ (s:=(B,g,d,t+1,D)) j q x ?_)));show handed_on rfl (qA h)
set_option tactic.hygienic true in
theorem kitx_exc (x:XIs K C):KitX K (.ref e) (.ref C) (ExcAt e C) where
 ty:=λο ο ο p=>p.ty
 it:=λο ο hin ο=>qa hin x
 ne:=λh tp dd its n sl hin htp=>by
  show Bool.eq_false_iff.mpr λq=>?_;let(cd,hcd,_):=any_some x.d;let e1:C=tp:=Value.ref.inj (ZA.mp q);rw[<-e1] at htp;unfold clsIn at hcd
  split at hcd
  .rename_i ho';let z:=(hin _ _ ho').symm.trans htp;cases z
  .cases hcd
 ca:=λhin p k=>ua hin p x k
end
end PySem.W
namespace L2
open PySem PySem.Spec PyProof.Rows
abbrev XI (K:PySem.W.Frag) (C:Addr):Prop:=PySem.W.XIs K C
theorem PX:∀n:Nat,∃h:Heap,h.objs.size=n
 |0=>⟨{({}:Heap) with objs:= #[]},rfl⟩
 |n+1=>by
  let(h,e):=PX n;show⟨h.push {cls:=.none,data:=.fields #[]},by rw[Heap.size_push,e]⟩
theorem va {a C q:Addr}:lD a C=lD a q↔C=q:=by
 constructor
 .intro j;unfold lD at j;let f:=HO.ext.inj j;let(h,e):=PX a;let g:=LA f (h.push {cls:=.ref C,data:=.fields #[.none,.none,.none]});let k:(h.push {cls:=.ref C,data:=.fields #[.none,.none,.none]}).get? a>{cls:=.ref C,data:=.fields #[.none,.none,.none]}:=by
   rw[<-e];show jA h rfl
  let D:=g.mp (_,_,k,rfl,rfl,rfl);let(o,vs,B,c,_):=D;rw[k] at B;cases B;cases c;rfl
 .intro j;rw[j]
def wE:V->Value
 |.ref a=>.ref a
 |.ty n=>.type n
 |_=>.none
theorem dS {a:Addr}:wE (.ref a)=.ref a:=rfl
theorem wa {n:String}:wE (.ty n)=.type n:=rfl
theorem NH {X:Cx} {q:!(Addr×Obj)} {B:St} {H:Hp} {s:Shared} {a C:Addr} (j:rB X q B H s) (e:H a>(lD a C)):PySem.W.ExcAt a C s.heap:=by
 let((o,vs,h1,h2,_),_):=(show LB X.prog X.w H s.heap a (lD a C) from j.hok a _ e)
 show(o,h1,h2)
theorem eS {X:Cx} {K:PySem.W.Frag} (N:X.K=K:=by rfl):TC X (.builtin "isinstance") (λxs H Q=>∃a B C j,xs=[.ref a,B]/\H a>(lD a C)/\XI K C/\PySem.W.kitOne K (.ref C) (wE B)>j/\Q (.bl j) H):=by
 subst N;intro Y s Z H xs us Q D r h;let(a,B,C,j,rfl,e,x,k,q):=h;cases r with
 |cons O F=>
  cases F with
  |cons U F=>
   cases F;cases O;let L:∀u,CB B u->PySem.W.kitOne X.K (.ref C) (wE B)>j->PySem.W.kitOne X.K (.ref C) u>j:=λu J k=>by
    cases B with
    |ref a=>cases J;show k
    |ty n=>cases J;show k
    |_=>show absurd k (by unfold wE PySem.W.kitOne PySem.W.kitCls;simp)
   show PySem.W.kia_one (PySem.W.kitx_exc x) D.kIn (NH D e) (L _ U k) nofun λV=>(.bl j,H,D.tok V,rfl,q)
theorem QX:∀{cs:!V} {its:!Value},yB cs its->(∀y∈cs,(∃a,y=.ref a)\/∃n,y=.ty n)->its=cs.map wE
 |_,_,.nil,_=>rfl
 |y::cs,u::us,.cons r t,h=>by
  let e:=QX t λz hz=>h z (wA _ hz);let(a,rfl)||(n,rfl):=h y (zA ..)
  .cases r;rw[e];rfl
  .cases r;rw[e];rfl
theorem xa {X:Cx} {K:PySem.W.Frag} (U:X.K=K:=by rfl):TC X (.builtin "isinstance") (λxs H Q=>∃a L D C B,xs=[.ref a,.ref L]/\H a>(lD a C)/\XI K C/\LG (H L)>D/\(∀O∈D,(∃a,O=.ref a)\/∃n,O=.ty n)/\PySem.W.kitAny K (.ref C) (D.map wE)>B/\Q (.bl B) H):=by
 subst U;intro a9 s ab H xs us Q j r h;let(a,L,D,C,B,rfl,e,x,Y,V,k,q):=h;cases r with
 |cons a2 N=>
  cases N with
  |cons a3 N=>
   cases N;cases a2;cases a3;let(Z,a4,(o,W,F,n,J),_):=j.tuple (da (K:=X.K) Y);let(a0,a7,a1,a8):=o;let F:a0=.type "tuple":=F;let J:a1=.seq Z.toArray n:=J;subst F J;rw[<-QX a4 V] at k;show PySem.W.kia_tup (PySem.W.kitx_exc x) j.kIn (NH j e) W k (λa6=>nomatch a6) λa5=>(.bl B,H,j.tok a5,rfl,q)
inductive Dv where
 |leaf (v:V)
 |seq (t:Bool) (ds:!Dv)
mutual
noncomputable def EM (K:PySem.W.Frag) (H:Hp):Dv->V->Prop
 |.leaf v,x=>x=v/\rM v=true
 |.seq t ds,x=>∃a xs,x=.ref a/\(if t=true then ED K H a xs else RB K H a xs)/\MC K H ds xs
noncomputable def MC (K:PySem.W.Frag) (H:Hp):!Dv->!V->Prop
 |[],xs=>xs=[]
 |d::ds,xs=>∃x r,xs=x::r/\EM K H d x/\MC K H ds r
end
mutual
noncomputable def RD:Dv->Nat
 |.leaf _=>0
 |.seq _ ds=>eC ds+1
noncomputable def eC:!Dv->Nat
 |[]=>0
 |d::ds=>max (RD d) (eC ds)
end
theorem MC.length {K:PySem.W.Frag} {H:Hp}:∀{ds:!Dv} {xs:!V},MC K H ds xs->ds.length=xs.length
 |[],xs,h=>by unfold MC at h;subst h;rfl
 |d::ds,xs,h=>by
  unfold MC at h;let(x,r,rfl,_,h):=h;simp[h.length]
theorem MC.get {K:PySem.W.Frag} {H:Hp}:∀{ds:!Dv} {xs:!V} {j:Nat} {d:Dv},MC K H ds xs->ds[j]?>d->∃x,xs[j]?>x/\EM K H d x
 |[],xs,j,d,h,e=>by simp at e
 |d'::ds,xs,0,d,h,e=>by
  unfold MC at h;let(x,r,rfl,hx,h):=h;simp at e;subst e;show(x,rfl,hx)
 |d'::ds,xs,j+1,d,h,e=>by
  unfold MC at h;let(x,r,rfl,hx,h):=h;let(y,e1,e2):=MC.get (j:=j) h (by simpa using e);show(y,by simpa using e1,e2)
def CD (sc:Scope) (env:Env) (x:Str) (fs:!Str):Bool:=
 sc.kind == .function&&sc.names.all (λy=>y.2 != .cell&&(y.2 != .local || sc.names.lookup y.1 == some .local)&&(y.2 != .free || env.kindOf y.1 == some .cell || env.kindOf y.1 == some .free))&&
  sc.names.lookup x == some .local&&fs.all (λf=>sc.names.lookup f == some .free)
structure bD (sc:Scope) (env:Env) (x:Str) (fs:!Str):Prop where
 kind:sc.kind=.function
 nocell:∀y∈sc.names,y.2≠.cell
 own:∀y∈sc.names,y.2=.local->sc.names.lookup y.1>.local
 fr:∀y∈sc.names,y.2=.free->env.kindOf y.1>.cell\/env.kindOf y.1>.free
 x:sc.names.lookup x>.local
 fs:∀f∈fs,sc.names.lookup f>.free
theorem bD.of {D:Scope} {env:Env} {x:Str} {fs:!Str} (h:CD D env x fs=true):bD D env x fs:=by
 unfold CD at h;simp only[IA,ZA,List.all_eq_true,Bool.or_eq_true,bne_iff_ne,ne_eq] at h;let(((h1,h2),h3),F):=h;show(h1,λB q=>(h2 B q).1.1,λB q e=>?_,λB q e=>?_,h3,F)
 .let j||j:=(h2 B q).1.2
  .show absurd e j
  .show j
 .rcases (h2 B q).2 with (j|j)|j
  .show absurd e j
  .show .inl j
  .show .inr j
theorem RT {env:Env}:∀(names:!(Str×NameKind)) (acc:!(Str×Addr)),(∀n,(n,NameKind.free)∈names->∃c,env.cells.lookup n>c)->
  ∃cl,(forIn names acc λy r=>(do if (y.2 == NameKind.free)=true then do let c<-cellOf env y.1;pure (ForInStep.yield ((y.1,c)::r)) else pure (ForInStep.yield r):Sem (ForInStep (!(Str×Addr)))))=pure cl/\
   (∀n c,cl.lookup n>c->acc.lookup n>c\/env.cells.lookup n>c)/\∀n,(∃c,acc.lookup n>c)\/(n,NameKind.free)∈names->∃c,cl.lookup n>c
 |[],acc,_=>(acc,rfl,λο ο e=>.inl e,λn h=>h.elim id λz=>nomatch z)
 |(n,k)::r,acc,h=>by
  let hr:∀m,(m,NameKind.free)∈r->∃c,env.cells.lookup m>c:=λm hm=>h m (wA _ hm);by_cases hk:k=.free
  .subst hk;let(c,hc):=h n zA;let(cl,e,h1,h2):=RT r ((n,c)::acc) hr;show(cl,?_,λm c' hm=>?_,λm hm=>h2 m ?_)
   .rw[List.forIn_cons];simp only[beq_self_eq_true,if_true,cellOf,hc,pure_bind];show e
   .let z||z:=h1 m c' hm
    .rw[YA] at z;cases q:m == n with
     |true=>
      rw[q] at z;cases z;rw[ZA.mp q];show .inr hc
     |false=>rw[q] at z;show .inl z
    .show .inr z
   .rw[YA];let(c',z)||hm:=hm
    .cases q:m == n with
     |true=>show .inl ⟨c,rfl⟩
     |false=>show .inl ⟨c',z⟩
    .let z||z:=iA.mp hm
     .cases z;rw[beq_self_eq_true];show .inl ⟨c,rfl⟩
     .show .inr z
  .let(cl,e,h1,h2):=RT r acc hr;show(cl,?_,h1,λm hm=>h2 m ?_)
   .rw[List.forIn_cons];let hb:(k == NameKind.free)=false:=by simpa using hk
    simp only[hb,NA,VA,pure_bind];show e
   .let z||hm:=hm
    .show .inl z
    .let z||z:=iA.mp hm
     .cases z;show absurd rfl hk
     .show .inr z
theorem ya {env:Env} {B:Scope} (h:∀n,(n,NameKind.free)∈B.names->∃c,env.cells.lookup n>c):
  ∃j,closureFor B env=pure j/\(∀n c,j.lookup n>c->env.cells.lookup n>c)/\∀n,(n,NameKind.free)∈B.names->∃c,j.lookup n>c:=by
 let(j,e,h1,h2):=RT B.names [] h;show(j,?_,λn c F=>(h1 n c F).elim nofun id,λn D=>h2 n (.inr D));unfold closureFor;simp only[bind_pure];show e
theorem UT {env:Env}:∀{names:!(Str×NameKind)} {x:Str} {k:NameKind},(names.map λ(n,k)=>if (k == NameKind.free&&env.scope.kind == .function&&env.kindOf n == some .cell) then (n,NameKind.cell) else (n,k)).lookup x>k->
  k=.cell\/k=.free->names.lookup x>.free\/names.lookup x>.cell
 |[],_,_,h,_=>by simp at h
 |(n,k0)::r,x,k,h,hk=>by
  let ih:=@UT env r x k;let h:List.lookup x ((if (k0 == NameKind.free&&env.scope.kind == .function&&env.kindOf n == some .cell)=true then (n,NameKind.cell) else (n,k0))::(r.map λ(n,k)=>if (k == NameKind.free&&env.scope.kind == .function&&env.kindOf n == some .cell) then (n,NameKind.cell) else (n,k)))>k:=h;by_cases hc:(k0 == NameKind.free&&env.scope.kind == .function&&env.kindOf n == some .cell)=true
  .rw[vA hc] at h;simp only[YA] at h ⊢;cases hx:x == n with
   |true=>
    simp only[IA,ZA] at hc;rw[hc.1.1];show .inl rfl
   |false=>rw[hx] at h;show ih h hk
  .rw[kA hc] at h;simp only[YA] at h ⊢;cases hx:x == n with
   |true=>
    rw[hx] at h;cases h;let rfl||rfl:=hk
    .show .inr rfl
    .show .inl rfl
   |false=>rw[hx] at h;show ih h hk
theorem RX {env:Env}:∀{names:!(Str×NameKind)} {x:Str},names.lookup x>.free->
  (names.map λ(n,k)=>if (k == NameKind.free&&env.scope.kind == .function&&env.kindOf n == some .cell) then (n,NameKind.cell) else (n,k)).lookup x>.cell\/(names.map λ(n,k)=>if (k == NameKind.free&&env.scope.kind == .function&&env.kindOf n == some .cell) then (n,NameKind.cell) else (n,k)).lookup x>.free
 |[],_,h=>by simp at h
 |(n,k0)::r,x,h=>by
  let ih:=@RX env r x;change List.lookup x ((if (k0 == NameKind.free&&env.scope.kind == .function&&env.kindOf n == some .cell)=true then (n,NameKind.cell) else (n,k0))::_)=_\/List.lookup x ((if (k0 == NameKind.free&&env.scope.kind == .function&&env.kindOf n == some .cell)=true then (n,NameKind.cell) else (n,k0))::_)=_;simp only[YA] at h;by_cases hc:(k0 == NameKind.free&&env.scope.kind == .function&&env.kindOf n == some .cell)=true
  .rw[vA hc];simp only[YA];cases hx:x == n with
   |true=>show .inl rfl
   |false=>rw[hx] at h;show ih h
  .rw[kA hc];simp only[YA];cases hx:x == n with
   |true=>rw[hx] at h;show .inr h
   |false=>rw[hx] at h;show ih h
def UB (X:Cx) (scope:Scope) (cl:!(Str×Addr)) (C:Addr) (N:!Str) (s₀:Shared) (H₀:Hp) (fp:!Addr) (xe:Value->Shared->Prop):Cx:=
 {X with N:=N,s₀:=s₀,H₀:=H₀,env:=compEnvC scope cl C X.env,outer:=X.stack,stack:=X.stack,ex:=fp,fn:=λο=>false,pn:=[],xe:=xe}
theorem FM {X:Cx}:XW X (λο ο ο=>False):=λο ο ο ο ο ο ο ο ο ο ο ο ο ο ο h=>h.elim
inductive RE (g:TG) (tt:TT) (te:TE):Type where
 |mk:RE g tt te
def PF (X:Cx) (ifs:!Expr) (tt:TT):Prop:=
 ∀(pins:!(Addr×Obj)) (s:Shared) (σ:St) (H:Hp) (Q:Bool->Hp->Prop),rB X pins σ H s->tt σ H Q->
  wpAny (model X.prog X.w) X.A (forIn ifs true λc r=>if r=true then do let ok<-isTrue c X.env (eval c X.env);pure (ForInStep.yield ok) else pure (ForInStep.yield r)) (TP X pins σ Q) X.xe s
def tYes:TT:=λο H Q=>Q true H
theorem fS {X:Cx}:PF X [] tYes:=λο ο ο H ο I h=>by
 simp only[List.forIn_nil];show qA (H,I,h)
theorem xJ {X:Cx} {c:Expr} {j:TT} (h:PT X c j):PF X [c] j:=λD s F H Q q B=>wpAny_tests_one (h D s F H Q q B)
def jF (g:TG) (tt:TT) (te:TE) (_:RE g tt te) (J:It) (σ0:St) (D:Addr) (Q:Hp->Prop) (H:Hp):Prop:=
 ∃W:Nat->Nat->!V->St->Hp->Prop,(∃m,W 0 m [] σ0 (uB H D (.lst [])))/\∀i m ys σ H,W i m ys σ H->
  (J.stop i H/\Q H)\/(J.go i H/\∃N:!V->St->Hp->Prop,(∀ys σ H,N ys σ H->∃m',m' < m/\W (i+1) m' ys σ H)/\
   ∀y H',J.yld i H y H'->g y σ H' λσ2 H2=>tt σ2 H2 λb H2'=>if b=true then te σ2 H2' λv H3=>H3 D>(.lst ys)/\ys.length < sizeLine/\N (ys++[v]) σ2 (uB H3 D (.lst (ys++[v]))) else N ys σ2 H2')
def OH (wi:TI) (ix:!Nat) (g:TG) (tt:TT) (te:TE) (h:RE g tt te):TE:=λσ H Q=>wi σ H λJ H1=>∀D,H1 D=none->jF g tt te h J (none::ix.map λi=>(σ[i]?).join) D (λH'=>Q (.ref D) H') H1
theorem za {lo:Int} {n:Nat} {g:TG} {N:TT} {L:TE} {h:RE g N L} {Z:St} {F:Addr} {Q:Hp->Prop} {H:Hp} (D:Nat->!V->St->Hp->Prop) (h0:D 0 [] Z (uB H F (.lst [])))
  (a5:∀i j B H,i < n->D i j B H->g (.int (lo+i)) B H λJ a1=>N J a1 λa2 O=>if a2=true then L J O λv U=>U F>(.lst j)/\j.length < sizeLine/\D (i+1) (j++[v]) J (uB U F (.lst (j++[v]))) else D (i+1) j J O) (a4:∀j B H,D n j B H->Q H):
  jF g N L h (zH lo n) Z F Q H:=by
 show(λi m j B H=>i+m=n/\D i j B H,(n,Nat.zero_add n,h0),λi m j B H ⟨e,Y⟩=>?_);by_cases W:i < n
 .show .inr (W,D (i+1),λj B H q=>(m - 1,⋯,⋯,q),?_);rintro a6 a0 ⟨rfl,rfl⟩;show a5 i j B a0 W Y
 .let a3:i=n:=⋯;subst a3;show .inl ⟨eA _,a4 j B H Y⟩
theorem VT {K:PySem.W.Frag} {a:Addr} {xs:!V} {g:TG} {U:TT} {O:TE} {h:RE g U O} {Z:St} {F:Addr} {Q:Hp->Prop} {H:Hp} (D:Nat->!V->St->Hp->Prop) (h0:D 0 [] Z (uB H F (.lst []))) (a7:∀i j B H,i<=xs.length->D i j B H->RB K H a xs)
  (a8:∀i x j B H,xs[i]?>x->D i j B H->g x B H λJ a1=>U J a1 λa2 W=>if a2=true then O J W λv Y=>Y F>(.lst j)/\j.length < sizeLine/\D (i+1) (j++[v]) J (uB Y F (.lst (j++[v]))) else D (i+1) j J W) (a5:∀j B H,D xs.length j B H->Q H):
  jF g U O h (cJ K a) Z F Q H:=by
 show(λi m j B H=>i+m=xs.length/\D i j B H,(xs.length,Nat.zero_add _,h0),λi m j B H ⟨e,N⟩=>?_);let L:=a7 i j B H ⋯ N;by_cases a6:i < xs.length
 .let a4:xs[i]?>xs[i]:=BA a6;show .inr ((xs,_,L,a4),D (i+1),λj B H q=>(m - 1,⋯,⋯,q),?_);rintro ab a0 ⟨rfl,a9⟩;show a8 i ab j B a0 (a9 xs L) N
 .let a3:i=xs.length:=⋯;subst a3;show .inl ⟨(xs,L,eA _),a5 j B H N⟩
theorem Ra {prog:Program} {w:World} {A:Around} {j:Result->Shared->Prop} {s:Shared} {J D W:Expr} {L:!Expr} {scope:Scope} {pos:Pos} {B F:Value} {env:Env} (q:Nat->Shared->Prop)
  (a7:∀n s,q n s->wpAny (model prog w) A (pyNext B) (λr N=>match r with
   |none=>j (.ok .next) N
   |some v=>wpAny (model prog w) A (letOwnedTupleGo D B v) (λο Y=>wpAny (model prog w) A (assign D env v) (λο Z=>
    wpAny (model prog w) A (forIn L true λc r=>if r=true then do let ok<-isTrue c env (eval c env);pure (ForInStep.yield ok) else pure (ForInStep.yield r)) (λok O=>
     if ok=true then wpAny (model prog w) A (eval J env) (λx a0=>
      wpAny (model prog w) A (call (.builtin "list.append") [F,x]) (λο a1=>∃m,m < n/\q m a1) (notedBy (model prog w) A env λe s'=>j (.error e) s') a0) (notedBy (model prog w) A env λe s'=>j (.error e) s') O
     else ∃m,m < n/\q m O) (notedBy (model prog w) A env λe s'=>j (.error e) s') Z) (notedBy (model prog w) A env λe s'=>j (.error e) s') Y) (notedBy (model prog w) A env λe s'=>j (.error e) s') N) (notedBy (model prog w) A env λe s'=>j (.error e) s') s)
  (n:Nat) (h:q n s):codeAny (model prog w) A (.compLoop (.ListComp J [(D,W,L,0)] scope pos) 0 B F env) j s:=by
 show codeAny_loop rfl q (λn s a2=>?_) n h;change wpAny _ _ ((compTurn (.ListComp J [(D,W,L,0)] scope pos) 0 B F env).onRaise (λx=>do noteFrame x env;theTreesLotGoes x)) _ _ s;show wpAny_noted ?_;rw[compTurn_list];show aA (wpAny_standAt (aA (EA (a7 n s a2) (λr N U=>?_) λο ο h'=>h')));cases r with
 |none=>show qA U
 |some v=>
  show aA (EA U (λο Y a3=>?_) λο ο h'=>h');show aA (EA a3 (λο Z a4=>aA (EA a4 (λok O V=>?_) λο ο h'=>h')) λο ο h'=>h');cases ok with
  |false=>show qA ⟨rfl,V⟩
  |true=>
   show aA (aA (EA V (λx a0 a5=>aA (EA a5 (λο a1 a6=>qA (qA ⟨rfl,a6⟩)) λο ο h'=>h')) λο ο h'=>h'))
structure PH (ck:Cx->Prop) (P:Program) (w:World) (K:PySem.W.Frag) (tg:Expr) (J:It) (fp:!Addr) (it:Addr) (tn:Nat->Heap->Prop):Prop where
 obj:∀i h,tn i h->∀b∈fp,∃o,h.get? b>o/\∀v,o.data≠.cell v
 keep:∀i h h',tn i h->(∀b∈fp,∀o,h.get? b>o->h'.get? b>o)->tn i h'
 item:∀(X:Cx),X.prog=P->X.w=w->X.K=K->ck X->∀(i:Nat) (pins:!(Addr×Obj)) (s:Shared) (σ:St) (H:Hp) (E:Value->Shared->Prop),rB X pins σ H s->(∀b∈fp,aD X pins H b)->tn i s.heap->J.go i H->
  wpAny (model P w) X.A (pyNext (.ref it)) (λr s1=>∃u,r>u/\wpAny (model P w) X.A (letOwnedTupleGo tg (.ref it) u) (λο s2=>∃x H',rB X pins σ H' s2/\CB x u/\J.yld i H x H'/\tn (i+1) s2.heap/\∀b∈fp,H' b=none) E s1) E s
 done:∀(X:Cx),X.prog=P->X.w=w->X.K=K->ck X->∀(i:Nat) (pins:!(Addr×Obj)) (s:Shared) (σ:St) (H:Hp) (E:Value->Shared->Prop),rB X pins σ H s->(∀b∈fp,aD X pins H b)->tn i s.heap->J.stop i H->
  wpAny (model P w) X.A (pyNext (.ref it)) (λr s1=>r=none/\rB X pins σ H s1) E s
 self:∀(A:Around) (i:Nat) (s:Shared) (Q:Value->Shared->Prop) (E:Value->Shared->Prop),tn i s.heap->Q (.ref it) s->wpAny (model P w) A (pyIter (.ref it)) Q E s
theorem HE.g {P:Program} {w:World} {K:PySem.W.Frag} {D:Expr} {j:It} {q:!Addr} {B:Addr} {F:Nat->Heap->Prop} (T:HE P w K D j q B F):PH (λX=>X.calm=true) P w K D j q B F:=(T.obj,T.keep,T.item,T.done,T.self)
section
variable {X:Cx}
theorem SX {e7:Cx->Prop} {a5:!(Addr×Obj)} {a3:St} {a6:Hp} {Z:Shared} {d2:Addr} {O:!Addr} {be:Nat->Heap->Prop} {a8:It} {bd en c2:Expr} {d1:!Expr} {scope:Scope} {a1:!(Str×Addr)} {pos:Pos} {x:Str} {xs fs:!Str} {ix:!Nat} {g:TG} {f2:TT} {f1:TE}
  {e2:Addr->Hp->Prop} {E:Value->Shared->Prop} {RR:Value->Addr->Result->Shared->Prop}
  (e0:rB X a5 a3 a6 Z) (T:PH e7 X.prog X.w X.K bd a8 O d2 be) (ew:be 0 Z.heap) (eb:∀B∈O,aD X a5 a6 B) (ef:∀C ab a7 F,e7 (UB X scope a1 C (xs++fs) ab a7 O F)) (S:bD scope X.env x fs)
  (a9:∀n c,a1.lookup n>c->X.env.cells.lookup n>c) (e4:∀n,(n,NameKind.free)∈scope.names->∃c,a1.lookup n>c) (ej:ix.map (X.N[·]?)=fs.map some)
  (ga:∀C ab a7 F,PG (UB X scope a1 C (xs++fs) ab a7 O F) bd g) (g9:∀C ab a7 F,PF (UB X scope a1 C (xs++fs) ab a7 O F) d1 f2) (g8:∀C ab a7 F,PE (UB X scope a1 C (xs++fs) ab a7 O F) c2 f1)
  (h:∀ad,a6 ad=none->jF g f2 f1 .mk a8 (List.replicate xs.length none++ix.map λi=>(a3[i]?).join) ad (e2 ad) a6)
  (g0:∀ad C a0 s',rB X a5 a3 a0 s'->e2 ad a0->(∃m,s'.heap.Ns C m)->aD X a5 a0 C->RR (.ref ad) C (.ok .next) s'):
  wpAny (model X.prog X.w) X.A (newList []) (λe3 hd=>wpAny (model X.prog X.w) X.A (newFunctionEnv scope X.env.globals a1 [] X.env.qual none .none (some X.env)) (λe6 he=>
   codeAny (model X.prog X.w) X.A (.compStart (.ListComp c2 [(bd,en,d1,0)] scope pos) 0 (.ref d2) e3 {e6 with scope:=relabel scope X.env}) (RR e3 e6.locals) he) E hd) E Z:=by
 let g4:a6 Z.heap.objs.size=none:=e0.hok.fresh (eA _);let(W,(go,hh),hf):=h _ g4;show wpAny_newObj_type (wpAny_newFunctionEnv S.nocell (by intro L a2;simp at a2) (λah ck cs=>?_) S.kind);let Y:rB X a5 a3 (uB a6 Z.heap.objs.size (.lst [])) {Z with heap:=Z.heap.push {cls:=.type "list",dict:=none,data:=.seq ([]:!Value).toArray}}:=
  e0.laid (t':=Z.toks) (λB u e=>cA _ e) (eA _) (by decide,[],0,.nil,jA _ rfl)
 obtain⟨J,c3⟩:∃h6:Shared,h6={Z with heap:=Z.heap.push {cls:=.type "list",dict:=none,data:=.seq ([]:!Value).toArray}}:=⟨_,rfl⟩
 rw[<-c3] at Y;let ca:Z.heap.push {cls:=.type "list",dict:=none,data:=.seq ([]:!Value).toArray}=J.heap:=by rw[c3]
 let f0:J.heap.objs.size=Z.heap.objs.size+1:=by rw[<-ca,Heap.size_push]
 dsimp only at ck cs ⊢;rw[ca] at ck cs ⊢;generalize g6:uB a6 Z.heap.objs.size (.lst [])=H3 at *;let d3:∀B∈O,B < Z.heap.objs.size:=λB D=>let ⟨_,e,_⟩:=T.obj _ _ ew B D;dA e
 let a4:∀B∈O,aD X a5 H3 B:=λB D=>by
  show⟨?_,(eb B D).2⟩;rw[<-g6,IB (uA (d3 B D))];show (eb B D).1
 let f3:aD X a5 H3 J.heap.objs.size:=Y.fpOk (eA _) (Y.hok.fresh (eA _));let dd:∀B o,J.heap.get? B>o->ah.get? B>o:=λB o e=>cs.extBut B o (uA (dA e)) (cA _ e);let nofs:∀B∈O,B∉mC X.stack:=λB D U=>(iA.mp (Y.stkSub B U)).elim (a4 B D).2.1 (a4 B D).2.2.1;let em:be 0 ah:=T.keep _ _ _ ew λB ο o e=>dd B o (by rw[<-ca];show cA _ e);let b5:=Y.env0;let ok:∀F,(UB X scope a1 J.heap.objs.size (xs++fs) J H3 O F).Ok:=λF=>by
  show(Y.ok.mod,S.kind,Y.ok.glob,Y.ok.blt,eA _,λL U c h1 h2=>Y.ok.inj L U c (a9 _ _ h1) (a9 _ _ h2),λL a2=>?_,λL c U=>?_,Y.ok.hd,Y.ok.frames,.inl rfl,λB D=>⟨?_,λL c e=>(a4 B D).2.2.2.2.1 L c (a9 _ _ e)⟩,b5.bs,b5.bsz,λB o e D=>?_,nofs,b5.funs,b5.frf)
  .let q:scope.names.lookup L>.free\/scope.names.lookup L>.cell:=by
    let a2||a2:=a2
    .show UT a2 (.inl rfl)
    .show UT a2 (.inr rfl)
   let q||q:=q
   .show e4 L (PySem.mem_of_lookup q)
   .show absurd rfl (S.nocell _ (PySem.mem_of_lookup q))
  .cases U
  .show uA (fA (d3 B D) (by rw[f0];show Nat.le_succ _))
  .let U||U:=(a4 B D).2.2.2.1
   .show Y.ok.noex B o e U
   .show absurd (fA (dA e) (cB Y.ok.bsz U)) (eB _)
 let e5:∀c v,J.heap.IsCell c v->ah.IsCell c v:=λc v ⟨o,ge,g7⟩=>(o,dd _ _ ge,g7)
 let f6:∀F,rB (UB X scope a1 J.heap.objs.size (xs++fs) J H3 O F) [] (List.replicate xs.length none++ix.map λi=>(a3[i]?).join) H3 {J with heap:=ah,toks:=J.toks+([]:!(Str×Value)).length}:=λF=>by
  let ek:∀B o,J.heap.get? B>o->ah.get? B>o:=dd;show(ok F,rfl,Y.bare,Un.kept ek,(_,ck,λi L v h1 h2 h3=>?_),λL c e=>?_,Y.hok.fresh (eA _),λL c e=>Y.freeC L c (a9 _ _ e),λde cl=>absurd (show de∈([]:!(Addr×Obj)) from cl) (by simp),Y.hok.kept ek,?_)
  .by_cases gd:i < xs.length
   .let h2:(List.replicate xs.length (none:Option V)++ix.map λi=>(a3[i]?).join)[i]?>(some v):=h2;rw[List.getElem?_append_left (by rw[yA];show gd)] at h2;let U:=List.eq_of_mem_replicate (List.mem_of_getElem? h2);cases U
   .let h1:(xs++fs)[i]?>L:=h1;let h2:(List.replicate xs.length (none:Option V)++ix.map λi=>(a3[i]?).join)[i]?>(some v):=h2;rw[List.getElem?_append_right ⋯] at h1;rw[List.getElem?_append_right (by rw[yA];omega),yA] at h2;generalize i - xs.length=i at h1 h2;let a2:=S.fs L (List.mem_of_getElem? h1);rw[RA] at h2;cases c1:ix[i]? with
    |none=>rw[c1] at h2;cases h2
    |some j=>
     rw[c1] at h2;let h2:(a3[j]?).join>v:=lA h2;let gf:a3[j]?>(some v):=by
      cases q:a3[j]? with
      |none=>rw[q] at h2;cases h2
      |some o=>rw[q] at h2;cases o with
       |none=>cases h2
       |some o=>cases h2;rfl
     let bb:X.N[j]?>L:=by
      let U:=congrArg (·[i]?) ej;simp only[RA,c1,h1,Option.map_some] at U;show lA U
     let eo:=S.fr _ (PySem.mem_of_lookup a2) rfl;let(m,bc,gb):=Y.loc;let(u,r,l):=gb j L v bb gf (by let k||k:=eo;show .inr (.inl k);show .inr (.inr k));show(u,r,.inr ⟨RX a2,?_⟩);let(l,_)||(_,c,e,U):=l
     .let k||k:=eo<;>(rw[l] at k;cases k)
     .let(hm,ea):=e4 L (PySem.mem_of_lookup a2);let q:=a9 _ _ ea;rw[e] at q;cases q;show(c,ea,e5 _ _ U)
  .let(v,U):=Y.cell L c (a9 _ _ e);show⟨v,e5 _ _ U⟩
  .let U:=congrArg List.length ej;simp only[rA] at U;change (List.replicate xs.length none++_:St).length=(xs++fs).length;rw[HA,HA,yA,rA,U]
 let fn:∀{F b1 a0 s'},rB (UB X scope a1 J.heap.objs.size (xs++fs) J H3 O F) [] b1 a0 s'->rB X a5 a3 a0 s':=λ{F b1 a0 s'} a8=>
  Y.call' (s':=s') (ch:=O) a8.os a8.base a8.hok a8.bare λB D=>((a4 B D).2.2.2.1,(a4 B D).2.1,(a4 B D).2.2.2.2.1,(a4 B D).2.2.2.2.2)
 let dl:∀{F} {a0:Hp},(∀B∈O,a0 B=none)->∀B∈O,aD (UB X scope a1 J.heap.objs.size (xs++fs) J H3 O F) [] a0 B:=λ{F a0} bc B D=>
  (bc B D,uA (fA (d3 B D) (by rw[f0];show Nat.le_succ _)),nofs B D,.inl D,λL c e=>(a4 B D).2.2.2.2.1 L c (a9 _ _ e),λde cl=>absurd (show de∈([]:!(Addr×Obj)) from cl) (by simp))
 let eq:∀dk:Shared,dk={J with heap:=ah,toks:=J.toks+([]:!(Str×Value)).length}->
   codeAny (model X.prog X.w) X.A (.compLoop (.ListComp c2 [(bd,en,d1,0)] scope pos) 0 (.ref d2) (.ref Z.heap.objs.size) (compEnvC scope a1 J.heap.objs.size X.env)) (RR (.ref Z.heap.objs.size) J.heap.objs.size) dk:=by
  rintro dk rfl
  letI F:=notedBy (model X.prog X.w) X.A (compEnvC scope a1 J.heap.objs.size X.env) λe s'=>RR (.ref Z.heap.objs.size) J.heap.objs.size (.error e) s'
  show Ra (λn s'=>∃i ac b1 a0,rB (UB X scope a1 J.heap.objs.size (xs++fs) J H3 O F) [] b1 a0 s'/\be i s'.heap/\(∀B∈O,a0 B=none)/\W i n ac b1 a0) ?_ go (0,[],_,_,f6 F,em,λB D=>(a4 B D).1,hh);rintro n et ⟨i,ac,bl,b3,e1,ey,ec,hj⟩;let(hc,gt)||(g2,N,bb,step):=hf i n ac bl b3 hj
  .show NB (T.done (UB X scope a1 J.heap.objs.size (xs++fs) J H3 O F) rfl rfl rfl (ef _ _ _ _) i [] et bl b3 F e1 (dl ec) ey hc) λr ev zz=>?_;let(co,c0):=zz;subst co;let(m,bc,_):=c0.loc;show g0 _ _ b3 ev (fn c0) gt ⟨m,bc⟩ ⟨c0.free,f3.2⟩
  .show NB (T.item (UB X scope a1 J.heap.objs.size (xs++fs) J H3 O F) rfl rfl rfl (ef _ _ _ _) i [] et bl b3 F e1 (dl ec) ey g2) λr ev zz=>?_;let(u,co,g3):=zz;subst co;show NB g3 λ_ h7 zz=>?_;let(L,dr,f7,h4,hk,ap,g1):=zz;let fa:=f7.pinned (dl g1) (T.obj _ _ ap);show NB (ga _ _ _ F _ h7 bl dr L u _ fa h4 (step L dr hk)) λ_ h8 zz=>?_;let(b2,f4,ff,gs):=zz;show NB (g9 _ _ _ F _ h8 b2 f4 _ ff gs) λok ha zz=>?_;let(f5,b4,dh):=zz;cases ok with
   |false=>
    let(db,cd,dp):=bb _ _ _ (by simpa using dh);show(db,cd,i+1,ac,b2,_,b4.unpinned,T.keep _ _ _ ap λB D o e=>(b4.pin (B,o) (nA _ (nA _ (xL D e)))).1,λB D=>?_,dp);let(o,e,d):=T.obj _ _ ap B D;show (b4.pin (B,o) (nA _ (nA _ (xL D e)))).2.1
   |true=>
   rw[vA rfl] at dh ⊢;show NB (g8 _ _ _ F _ ha b2 f5 _ b4 dh) λhg hb zz=>?_;let(v,dt,fl,h5,g5,gc,gr):=zz;let(db,cd,dp):=bb _ _ _ gr;show NB (ET (X:=UB X scope a1 J.heap.objs.size (xs++fs) J H3 O F) _ hb b2 dt (.ref Z.heap.objs.size) [v] _ [hg] (λο a0=>a0=uB dt Z.heap.objs.size (.lst (ac++[v]))) fl rfl (.cons h5 .nil) (_,ac,v,rfl,rfl,g5,gc,rfl)) λ_ hn zz=>?_;let(_,hl,bm,_,fr):=zz;subst fr;show(db,cd,i+1,ac++[v],b2,_,bm.unpinned,T.keep _ _ _ ap λB D o e=>(bm.pin (B,o) (nA _ (nA _ (xL D e)))).1,λB D=>?_,dp);let(o,e,d):=T.obj _ _ ap B D;show (bm.pin (B,o) (nA _ (nA _ (xL D e)))).2.1
 subst c3;show codeAny_compStart_list (eq _ rfl) (T.self X.A 0 _ _ _ em (eq _ rfl))
theorem bD.clos {D:!(Addr×Obj)} {F:St} {H:Hp} {s:Shared} {scope:Scope} {x:Str} {fs:!Str} (S:bD scope X.env x fs) (q:rB X D F H s):
  ∃j,closureFor scope X.env=pure j/\(∀n c,j.lookup n>c->X.env.cells.lookup n>c)/\∀n,(n,NameKind.free)∈scope.names->∃c,j.lookup n>c:=
 ya λn B=>q.ok.has n (S.fr _ B rfl)
theorem WT {N L U:Expr} {V:!Expr} {scope:Scope} {pos:Pos} {x:Str} {fs:!Str} {ix:!Nat} {a0:TI} {g:TG} {Z:TT} {Y:TE} (b3:X.calm=true) (bd:PI X N L a0) (bl:CD scope X.env x fs=true) (be:ix.map (X.N[·]?)=fs.map some)
  (bc:∀F C B j J D,PG (UB X scope F C (x::fs) B j J D) N g) (bb:∀F C B j J D,PF (UB X scope F C (x::fs) B j J D) V Z) (b5:∀F C B j J D,PE (UB X scope F C (x::fs) B j J D) U Y) (c0:∀x,foldedSetIterable L X.env x=pure x:=by intro _;rfl):
  PE X (.ListComp U [(N,L,V,0)] scope pos) (OH a0 ix g Z Y .mk):=by
 intro W s a1 H Q O h;let S:=bD.of bl;let(F,b4,a8,a9):=S.clos O;rw[eval_ListComp];show wpAny_comprehension_free (use:=none) rfl c0 b4 S.kind S.own (NB (bd W s a1 H _ O h) λv cl h1=>NB h1 λck co h2=>?_);let(ch,J,cs,cd,ca,e,a5,T,c3,ad,q):=h2;subst e;show SX (xs:=[x]) (RR:=λa6 C=>compPost (model X.prog X.w) X.A X.xe none (EP X W a1 Q) a6 C) a5 T.g c3 ad (λο ο ο ο=>b3) S a8 a9 be (λC B j D=>bc F C B j J D) (λC B j D=>bb F C B j J D) (λC B j D=>b5 F C B j J D) q λa2 C a3 s' a4 c2 ⟨m,bm⟩ ⟨ab,ac,_,ah,ap,b1⟩=>?_;show(m,bm,λh' c1=>(.ref a2,a3,a4.turned (t':=s'.toks) (λa7 o b2 e=>(c1.2 a7 b2).trans e) ab ac ah ap b1,rfl,c2))
end
section
variable {X:Cx} {pins:!(Addr×Obj)} {σ:!(Option V)} {H H':Hp} {s:Shared} {h':Heap}
theorem rB.turnedL {t':Nat} {ch:!Addr} (L:rB X pins σ H s) (k:∀j o,j∉ch->s.heap.get? j>o->h'.get? j>o) (F:∀j∈ch,aD X pins H j):rB X pins σ H {s with heap:=h',toks:=t'}:=by
 let N:∀j u,H j>u->j∉ch:=λj u e D=>by rw[(F j D).1] at e;cases e
 show L.step (g':=s.gens) (d':=s.drawn) (ch:=ch) (λj J=>((F j J).2.2.2.1,(F j J).2.1,(F j J).2.2.2.2.1,(F j J).2.2.2.2.2)) (λj o ο ο B e ο=>k j o B e) (λj o ο ο B e ο=>⟨o.slots,k j o B e⟩) (λο ο ο ο n=>n)
  (λj o B e=>⟨o,k j o B e⟩) (λο ο e=>e) (λο ο ο e=>e) (λj W e=>⟨#[],by rw[e];simp⟩) (λm U=>?_) (λj u e=>?_) L.bare
 .let(o,O,ep,V,r):=U;show(o,O,ep,k _ o (λD=>(F _ D).2.1 rfl) V,r)
 .show (L.hok j u e).stay (λc v B q=>k c v ?_ q) (λο q=>q) λο ο q=>q;let D||D:=B
  .rw[D];show N j u e
  .show N c _ D
end
def XT (K:PySem.W.Frag) (a:Addr):It:=
 (λi H=>∃xs x,RB K H a xs/\xs[i]?>x,λi H v H'=>∃t x,v=.ref t/\H t=none/\H'=uB H t (.tup [.int i,x])/\∀xs,RB K H a xs->xs[i]?>x,λi H=>∃xs,RB K H a xs/\xs.length<=i)
theorem Sa {P:Program} {w:World} {K:PySem.W.Frag} {b3:!Expr} {x1} {pos:Pos} (a e D:Addr) (ad:e≠D):
  HE P w K (.Tuple b3 x1 pos) (XT K a) [e,D] e (λi h=>(∃N,IsEnum h e D i N)/\h.IsListIter D a i) where
 mem:=by simp
 obj:=λi h st j B=>by
  let((N,F),o,a1,c,d):=st;let B:j=e\/j=D:=by simpa using B
  let rfl||rfl:=B
  .show(_,F,λv L=>by
    let d3:Data.fields _=Data.cell v:=L;cases d3)
  .show(o,a1,λv L=>by rw[d] at L;cases L)
 keep:=λi h h' st k=>⟨let ⟨N,F⟩:=st.1;⟨N,k e (by simp) _ F⟩,st.2.at λo q=>k D (by simp) o q⟩
 item:=by
  intro X Z a2 Y a9 i W s a7 H E J O st a0;subst Z a2 Y;let(xs,x,V,a3):=a0;let(cs,a5,a4,co):=J.list V;let(u,ck,d2):=a5.get a3;let((N,F),U):=st;show wpAny_pyNext_enum_item F U a4.isList (x:=u) (by simpa using ck) ad λh1 b5 c3 ca hsz d1=>?_;show(_,rfl,wpAny_letOwnedTupleGo_enum b5 λh2 b4 a6=>?_);let bm:H s.heap.objs.size=none:=J.hok.fresh (eA _);let ab:e≠s.heap.objs.size:=uA (dA F);let c2:D≠s.heap.objs.size:=uA (let ⟨_,a1,_⟩:=U;dA a1);let cd:h2.get? s.heap.objs.size>{cls:=.type "tuple",data:=.seq #[.int i s.toks,u]}:=(a6.2 _ (Ne.symm ab)).trans ca;let ah:rB X W a7 (uB H s.heap.objs.size (.tup [.int i,x])) {s with heap:=s.heap.push {cls:=.type "tuple",data:=.seq #[.int i s.toks,u]}}:=
   J.laid (t':=s.toks) (λj o q=>cA _ q) (eA _) (by change 2<=sizeLine;decide,[.int i s.toks,u],.cons ⟨_,rfl⟩ (.cons d2 .nil),(_,jA _ rfl,rfl,_,rfl))
  let ac:∀j∈[e,D],aD X W (uB H s.heap.objs.size (.tup [.int i,x])) j:=λj B=>by
   show⟨?_,(O j B).2⟩;let c0:j=e\/j=D:=by simpa using B
   rw[IB (by let rfl||rfl:=c0;show ab;show c2)];show (O j B).1
  let ap:rB X W a7 (uB H s.heap.objs.size (.tup [.int i,x])) {s with heap:=h2,toks:=s.toks+1}:=by
   let b1:=rB.turnedL (t':=s.toks+1) (h':=h2) (ch:=[e,D]) ah ?k ac
   .show b1
   intro j o B q;dsimp only at q;let a8:j≠e:=λL=>B (by simp[L]);let c1:j≠D:=λL=>B (by simp[L]);let(rfl,rfl)||q:=PySem.Heap.get?_push_cases q
   .show cd
   .show (a6.2 j a8).trans (d1 j o a8 c1 q)
  show(.ref s.heap.objs.size,_,ap,rfl,(_,x,rfl,bm,rfl,λde cl=>by rw[J.list_inj cl V];show a3),⟨⟨_,b4⟩,c3.extBut a6.extBut (Ne.symm ad)⟩,λj B=>(ac j B).1)
 done:=by
  intro X Z a2 Y a9 i W s a7 H E J O st a0;subst Z a2 Y;let(xs,V,a3):=a0;let(cs,a5,a4,co):=J.list V;let((N,F),U):=st;let(bb,bc,db,bd,be,bl):=O D (by simp);let dd:=a5.length;show wpAny_pyNext_enum_end (J.ok.hd a9) F U a4.isList (by simp;omega) λh' b2=>⟨rfl,J.turned (t':=s.toks) (λj o B e=>b2 j o B e) bb bc bd be bl⟩
 self:=λο ο ο ο ο st h=>let ⟨_,F⟩:=st.1;wpAny_pyIter_enum F h
section
variable {X:Cx}
def QH (K:PySem.W.Frag) (ta:TA):TI:=λσ H R=>ta σ H λvs H1=>∃a,vs=[.ref a]/\(∃xs,RB K H1 a xs)/\R (XT K a) H1
theorem Ta:bootBuiltins "enumerate">(.type "enumerate"):=∅
theorem Ua {e:Expr} {V:TA} {a8 pos ad:Pos} {Z:!Expr} {x1} (a2:Gl X "enumerate") (a4:X.mg "enumerate"=none) (a1:PA X [e] V) (a6:starEach [e] X.env=[(false,eval e X.env)]:=by rfl):
  PI X (.Tuple Z x1 ad) (.Call (.Name "enumerate" a8) [e] [] pos) (QH X.K V):=by
 intro U s W H ah L h;show Call_ (UL L a2 a4 Ta (PyProof.Rows.callWith_type1 (NB (a1 pos U s W H _ L h) λus j zz=>?_) a6 rfl));let(vs,J,B,ab,a9):=zz;let(a,a0,(xs,a5),q):=a9;subst a0;cases ab with
 |cons r ac=>
  cases ac;cases r;let(b1,b2,pl,ap):=B.list a5;show call_enumerate_list pl.isList λh' N a3 hsz a7=>wpAny_pyIter_enum N ?_;let Y:rB X U W J {j with heap:=h'}:=B.kept (t':=j.toks) a7;show(j.heap.objs.size+1,[j.heap.objs.size+1,j.heap.objs.size],_,_,J,rfl,Y,Sa a _ _ (Nat.ne_of_gt (Nat.lt_succ_self _)),⟨⟨_,N⟩,a3⟩,λD F=>?_,q);let F:D=j.heap.objs.size+1\/D=j.heap.objs.size:=by simpa using F
  let O:j.heap.objs.size<=D:=by let rfl||rfl:=F;show Nat.le_succ _;show eA _
  show B.fpOk O (B.hok.fresh O)
end
theorem Va {K:PySem.W.Frag} {a:Addr} {xs:!V} {g:TG} {L:TS} {h:iF g L} {D:ZC} {j:St} {H:Hp} (B:Nat->St->Hp->Prop) (h0:B 0 j H) (Z:∀i j H,i<=xs.length->B i j H->RB K H a xs)
  (a0:∀i x t j H,xs[i]?>x->B i j H->H t=none->g (.ref t) j (uB H t (.tup [.int i,x])) λa3 N=>L {D with nx:=B (i+1),ct:=B (i+1),bk:=D.nx} a3 N) (W:∀j H,B xs.length j H->D.nx j H):MG g L h (XT K a) D j H:=by
 show(λi m j H=>i+m=xs.length/\B i j H,(xs.length,Nat.zero_add _,h0),λi m j H ⟨e,J⟩=>?_);let F:=Z i j H ⋯ J;by_cases Y:i < xs.length
 .let U:xs[i]?>xs[i]:=BA Y;show .inr ((xs,_,F,U),B (i+1),λj H q=>(m - 1,⋯,⋯,q),?_);rintro a5 a4 ⟨t,x,rfl,a1,rfl,a2⟩;show a0 i x t j H (a2 xs F) J a1
 .let O:i=xs.length:=⋯;subst O;show .inl ⟨(xs,F,eA _),W j H J⟩
theorem TX:∀{ns:!Int} {us:!Value},yB (ns.map V.int) us->IntsAre us ns
 |[],_,h=>by cases h;show .nil
 |n::ns,_,h=>by
  cases h with
  |cons r rr=>
   let(t,rfl):=r;show .cons _ _ (TX rr)
theorem YT:∀{ns:!Int} {us:!Value},IntsAre us ns->yB (ns.map V.int) us:=by
 intro ns us h
 induction h with
 |nil=>show .nil
 |cons n t _ j=>show .cons ⟨t,rfl⟩ j
section
variable {X:Cx} {pins:!(Addr×Obj)} {σ:St} {H:Hp} {s:Shared} {a:Addr} {kvs:!(Key×V)} {k:Key} {u r:Value} {z:V} {A:Around} {E:Value->Shared->Prop}
end
section
variable {X:Cx} {o e f:Expr} {apos cpos:Pos} {td ty tx:TE}
end
theorem Wa {X:Cx} (N:X.calm=true):TC X (.builtin "sum") (λxs H Q=>∃(B:Addr) (ns:!Int),xs=[.ref B]/\RB X.K H B (ns.map V.int)/\Q (.int ns.sum) H):=by
 intro a2 s a3 H xs us Q j r h;let(B,ns,rfl,U,q):=h;let(u,rfl,Y):=rE r;cases Y;let(a1,W,pl,a0):=j.list U;let D:=TX W;let(L,J):=D.allInts.items;let e:preSum (numAt L) L.size=ns.sum:=by
  let h1:=D.numsOf;rw[preSum_eq,List.take_of_length_le (by simp),<-h1,<-nums_intItems,<-J]
 let F:=pl.isList;rw[J] at F;show sum_intListG (j.ok.hd N) F λh' Z t' O=>?_;rw[e];show(.int ns.sum,H,j.kept (t':=Z) O,⟨t',rfl⟩,q)
theorem UX:∀{ns:!Int} {us:!Value},us.length=ns.length->(∀(j:Nat) v,us[j]?>v->∃t i,ns[j]?>i/\v=Value.int i t)->IntsAre us ns
 |[],[],_,_=>.nil
 |_::_,[],h,_=>by cases h
 |[],_::_,h,_=>by cases h
 |n::ns,u::us,hl,h=>by
  let(t,i,e1,e2):=h 0 u rfl;let e1:n=i:=by simpa using e1
  subst e1 e2;show .cons _ _ (UX (by simpa using hl) λj v e=>by simpa using h (j+1) v (by simpa using e))
theorem VX {prog:Program} {w:World} {A:Around} {E:Value->Shared->Prop} {s:Shared} {T:String} {r d:Addr} {n:Nat} {P:Nat->Value->Prop} {L:Heap->Prop} {Q:Value->Shared->Prop}
  (K:PySem.W.KdlSrc prog w T r d n P L) (a5:A.handled=none) (a7:L s.heap) (ns:!Int) (V:n=ns.length) (a1:ns.length < 64)
  (a3:∀j v,P j v->∃t i,ns[j]?>i/\v=Value.int i t)
  (h:∀(h1 h':Heap) (l:Addr) (W:Nat) (out:Array Value) (e:Nat) (J:!Int),(∀q o,s.heap.get? q>o->h1.get? q>o)->(∀q o,h1.get? q>o->h'.get? q>o)->h1.objs.size<=l->h'.get? l>(seqObj "list" out e)->
   IntsAre out.toList J->J.Perm ns->J.Pairwise (·<=·)->Q (.ref l) {s with heap:=h',toks:=W}):
  wpAny (model prog w) A (call (.builtin "sorted") [.ref r]) Q E s:=by
 let hsz:n<=sizeLine:=by rw[sizeLine_eq];omega
 show Calls.call_function_entry kind_sorted plain_sorted entry_sorted (args_sorted1 _) ?_;unfold Builtin.«sorted»;show aA (m:=checkCount "sorted" 1 1 _) (qA ?_);show aA (PySem.W.kdu_collect (A:=A.in1) K a5 a7 hsz λh' W B a6 N=>?_);let D:B.toList.length=n:=by rw[Array.length_toList];show N.1
 let a2:IntsAre B.toList ns:=UX (by rw[D,V]) λj v e=>a3 j v (N.2 j v (by rw[<-Array.getElem?_toList];show e));show aA (wpAny_newList ?_ (by rw[D];show hsz));let F:(h'.push (seqObj "list" B.toList.toArray 0)).get? h'.objs.size>(seqObj "list" B.toList.toArray 0):=jA _ rfl;show aA (wpAny_holding (wpAny_call_entry slot_list_sort (_,F,rfl) entry_list_sort (list_sort_tree F a2 (by rw[D,V];show a1) λout a8 Y Z a0=>(_,rfl,?_)) (args_list_sort _)));let(e,a4):=sortedHeap_at (out:=out) F;show qA (_,rfl,h h' _ _ _ out e a8 a6 (λq o O=>?_) (eA _) a4 Y Z a0);let U:=dA O;rw[sortedHeap_old (uA U) (by rw[size_push'];show Nat.lt_succ_of_lt U)];show cA _ O
theorem ZT {B:Type} {kvs:!(B×V)} {vs:!(B×Value)} (r:KV kvs vs):∀(j:Nat) (k:B) (x:Value),vs[j]?>(k,x)->∃v,kvs[j]?>(k,v)/\CB v x:=by
 unfold KV at r
 induction r with
 |nil=>intro j k x e;simp at e
 |cons q _ D=>
  intro j k x e;cases j with
  |zero=>
   simp at e;subst e;show(_,by simp;show Prod.ext q.1 rfl,q.2)
  |succ j=>simpa using D j k x (by simpa using e)
theorem WX {X:Cx} (a4:X.calm=true):TC X (.builtin "sorted") (λxs H Q=>∃(J:Addr) (kvs:!(Key×V)) (ns:!Int),xs=[.ref J]/\Rd H J (.dK kvs)/\kvs.map (·.1)=ns.map inl/\ns.length < 64/\
  ∀l D,H l=none->List.Perm D ns->D.Pairwise (·<=·)->Q (.ref l) (uB H l (.lst (D.map V.int)))):=by
 intro ah s b1 H xs us Q F r h;let(J,kvs,ns,rfl,a9,W,a2,q):=h;let(u,rfl,ap):=rE r;cases ap;let(b3,a5,vs,Y,dd):=oG F.hok a9;let(ep,a3):=dd.dictAt;let a8:vs.length=ns.length:=by
  have:=congrArg List.length W;rw[rA,rA] at this;rw[<-Y.length,this]
 show VX (PySem.W.kdl_dict (knd:=MB X.prog X.w) (kvs:=vs) (ep:=ep) a5) (F.ok.hd a4) a3 ns a8 a2 (λj v ab=>?_) λh1 h' l L out e D k0 k1 k2 k3 Z O a0=>?_
 .let(k,x,ad,a6):=ab;let(b2,ac,_):=ZT Y j k x ad;let B:(kvs.map (·.1))[j]?>k:=by rw[RA,ac];rfl
  rw[W,RA] at B;cases U:ns[j]? with
  |none=>rw[U] at B;cases B
  |some i=>
   rw[U] at B;cases B;let(t,a1):=Value.isInt_shape (k:=i) (v:=v) a6;show(t,i,rfl,a1)
 .let a7:=O.length_eq;let N:rB X ah b1 H {s with heap:=h1,toks:=L}:=F.kept (t':=L) k0;show(.ref l,_,N.laid (t':=L) k1 k2 (show LB X.prog X.w _ _ _ (.lst (D.map V.int)) from (by rw[rA,a7,sizeLine_eq];omega,out.toList,e,YT Z,k3)),rfl,q _ _ (N.hok.fresh k2) O a0)
inductive yJ (c:TT) (tb:TS):Type where
 |mk:yJ c tb
inductive zJ (tb:TS):Type where
 |mk:zJ tb
def RH (c:TT) (tb:TS) (_:yJ c tb):TS:=NF c tb
def SH (tb:TS) (_:zJ tb) (Pv:Nat->St->Hp->Prop) (m:Nat) (D:ZC) (σ:St) (H:Hp):Prop:=
 ∃N:St->Hp->Prop,(∀σ' H',N σ' H'->∃m',m' < m/\Pv m' σ' H')/\tb {D with nx:=N,ct:=N,bk:=D.nx} σ H
theorem Xa {X:Cx} {c:Expr} {j:!Stmt} {B:TT} {q:TS} {pos:Pos} (J:PassesOwn (model X.prog X.w) X.A X.env X.xe) (F:PT X c B) (D:DD X j q):PS X (.While c j [] pos) (RH B q .mk):=r8 J F D
theorem Za {c:TT} {D:TS} {h:yJ c D} {B:ZC} {j:St} {H:Hp} (q:Nat->St->Hp->Prop) (J:Nat) (h0:q J j H)
 (N:∀m j H,q m j H->c j H λL F=>if L=true then SH D .mk q m B j F else B.nx j F):RH c D h B j H:=(q,⟨J,h0⟩,N)
theorem GM {J:TS} {h:zJ J} {F:Nat->St->Hp->Prop} {m:Nat} {B:ZC} {N:St} {H:Hp}
 (q:J {B with nx:=λL D=>∃j,j < m/\F j L D,ct:=λL D=>∃j,j < m/\F j L D,bk:=B.nx} N H):SH J h F m B N H:=(_,λο ο h=>h,q)
section
variable {X:Cx} {pins:!(Addr×Obj)} {σ:!(Option V)} {H:Hp} {s:Shared} {a:Addr}
theorem rB.rewrite {u v:HO} (j:rB X pins σ H s) (e:H a>u) (N:∀B,u≠.own B) (U:∀xs,u≠.tup xs) (h0:∀w,X.H₀ a>w->(∃o D,w=.frz o D)\/(∃xs,w=.tup xs)\/(∃J,w=.tbl J)->False) (W:LB X.prog X.w (uB H a v) s.heap a v):
  rB X pins σ (uB H a v) s where
 ok:=j.ok
 os:=j.os
 bare:=j.bare
 base:=(j.base.keep,j.base.slot,λB o q n V=>by
   have:=j.base.free B o q n V;rw[IB (λD=>by rw[D,e] at this;cases this)];show this,j.base.there,
  λB xs q=>by
   let F:B≠a:=λD=>h0 _ (D ▸ q) (.inr (.inl ⟨_,rfl⟩));rw[IB F];show j.base.tups B xs q,
  λB o D q=>by
   let F:B≠a:=λD=>h0 _ (D ▸ q) (.inl (_,_,rfl));rw[IB F];show j.base.frzs B o D q,
  λB J q=>by
   let F:B≠a:=λD=>h0 _ (D ▸ q) (.inr (.inr ⟨_,rfl⟩));rw[IB F];show j.base.tbls B J q)
 loc:=j.loc
 cell:=j.cell
 free:=by rw[IB (Ne.symm (NC e j.free))];show j.free
 freeC:=λx c q=>by
  have:=j.freeC x c q;rw[IB (Ne.symm (NC e this))];show this
 pin:=λY O=>by
  let(Z,L,a0):=j.pin Y O;show(Z,by rw[IB (Ne.symm (NC e L))];show L,a0)
 hok:=λB w q=>by
  by_cases F:B=a
  .subst F;rw[KB] at q;cases q;show W
  .rw[IB F] at q;show (j.hok B w q).stay (λο ο ο q=>q) (λc q=>?_) λc xs q=>?_
   .rw[IB (λD=>by rw[D,e] at q;show N _ (lA q))];show q
   .rw[IB (λD=>by rw[D,e] at q;show U _ (lA q))];show q
 len:=j.len
theorem rB.still {w:HO} (B:rB X pins σ H s) (h:X.H₀ a>w) (D:(∃o j,w=.frz o j)\/(∃xs,w=.tup xs)\/(∃q,w=.tbl q)):(∃o j,H a>(.frz o j))\/(∃xs,H a>(.tup xs))\/(∃q,H a>(.tbl q)):=by
 let(o,j,rfl)||(xs,rfl)||(q,rfl):=D
 .show .inl (o,j,B.base.frzs a o j h)
 .show .inr (.inl ⟨xs,B.base.tups a xs h⟩)
 .let(m,e):=B.base.tbls a q h;show .inr (.inr ⟨_,e⟩)
theorem rB.freeze {kvs:!(Key×V)} (B:rB X pins σ H s) (e:H a>(.dK kvs)):∃o,s.heap.get? a>o/\rB X pins σ (uB H a (.frz o (.dK kvs))) s:=by
 let(j,J,vs,N,o,F,ep,D,r):=B.hok a _ e;show(o,D,B.rewrite e (λο j=>by cases j) (λο j=>by cases j) (λw L h=>?_) (D,j,J,vs,N,o,F,ep,D,r));let(_,_,q)||(_,q)||(_,q):=B.still L h<;>(rw[e] at q;cases q)
theorem rB.thaw {kvs:!(Key×V)} {o:Obj} (j:rB X pins σ H s) (e:H a>(.frz o (.dK kvs))) (h0:∀o u,X.H₀ a≠some (.frz o u)):rB X pins σ (uB H a (.dK kvs)) s:=by
 let(N,B,F,vs,L,dd):=j.hok a _ e;show j.rewrite e (λο B=>by cases B) (λο B=>by cases B) (λw D h=>?_) (B,F,vs,L,dd);let(_,_,rfl)||h:=h
 .show h0 _ _ D
 .let(O,U,q)||(_,q)||(_,q):=j.still D (.inr h)
  .let(xs,rfl)||(J,rfl):=h
   .have:=j.base.tups a xs D;rw[e] at this;cases this
   .let(m,this):=j.base.tbls a J D;rw[e] at this;cases this
  .rw[e] at q;cases q
  .rw[e] at q;cases q
end
def pD (a:Addr) (H:Hp):Hp:=match H a with
 |some (.frz _ (.dK kvs))=>uB H a (.dK kvs)
 |_=>H
theorem cb {a:Addr} {H:Hp} {o:Obj} {kvs:!(Key×V)} (h:H a>(.frz o (.dK kvs))):pD a H=uB H a (.dK kvs):=by unfold pD;rw[h]
set_option tactic.hygienic true in
theorem rB.thawed {X:Cx} {pins:!(Addr×Obj)} {σ:!(Option V)} {H:Hp} {s:Shared} {a:Addr} (I:rB X pins σ H s) (h0:∀o u,X.H₀ a≠some (.frz o u)):rB X pins σ (pD a H) s:=by
 unfold pD
 split
 .rename_i h;show I.thaw h h0
 .show I
def YF (a:Addr) (D:ZC):ZC:={D with nx:=λσ H=>D.nx σ (pD a H),bk:=λσ H=>D.bk σ (pD a H),ct:=λσ H=>D.ct σ (pD a H),rt:=λv H=>D.rt v (pD a H)}
def HM (X:Cx) (t:TS):TS:=λD σ H=>∃a,(∀o u,X.H₀ a≠some (.frz o u))/\t (YF a D) σ H
theorem fb {X:Cx} {st:Stmt} {t:TS} (h:PS X st t):PS X st (HM X t):=by
 intro N s O H J L F;let(a,h0,F):=F;show EA (h N s O H (YF a J) L F) (λf s' q=>?_) λο ο e=>e;unfold SP at q ⊢;cases f with
 |next=>let(B,D,j,q):=q;show(B,_,j.thawed h0,q)
 |brk=>let(B,D,j,q):=q;show(B,_,j.thawed h0,q)
 |cont=>let(B,D,j,q):=q;show(B,_,j.thawed h0,q)
 |ret u=>let(v,B,D,j,r,q):=q;show(v,B,_,j.thawed h0,r,q)
theorem aU {X:Cx} {J:!(Addr×Obj)} {N:!(Option V)} {H:Hp} {s:Shared} {a:Addr} {o:Obj} {kvs:!(Key×V)} {ep:Nat} {es} (D:rB X J N H s) (e:H a>(.frz o (.dK kvs))) (j:o.data=.dict es ep):
  ∃vs,KV kvs vs/\s.heap.DictAt (MB X.prog X.w) a vs ep/\(a == sysModules)=false:=by
 let(q,Y,F,vs,L,W,U,O,B,c,d,r):=D.hok a _ e;rw[q] at B;cases B;rw[j] at d;cases d;show(vs,L,(o,es,q,c,j,r),F)
theorem IM {X:Cx} {K:PySem.W.Frag} (h:X.K=K):nG X (FG K):=h ▸ FE
structure kF (K:PySem.W.Frag) (x qual:Str) (st:Stmt) (f:Addr) (fd:FuncData):Prop where
 ex:∃(oc:Value) (od:Option Addr) (dV kV doc pm:Value) (an:Option Addr) (cdv ct:Value) (osl:Array (Option Value)),
  fd=PySem.W.fnOf x qual (kB st) (jB st) (iB st) dV kV doc pm an cdv ct/\K.lookup f>(oc,od,.func fd,osl)/\PySem.W.codeIn K cdv qual=true
 kp:PySem.W.keepIn K (.ref f)=true
section
variable {P:Program} {w:World} {K:PySem.W.Frag} {mg:Str->Option Value} {base:Heap}
theorem XX {x q:Str} {st:Stmt} {f:Addr} {N:Value} {O B:Option Addr} {U:Array (Option Value)} {F kV J L j D:Value} (l:K.lookup f>(N,O,.func (PySem.W.fnOf x q (kB st) (jB st) (iB st) F kV J L B j D),U))
 (c:PySem.W.codeIn K j q=true) (k:PySem.W.keepIn K (.ref f)=true):kF K x q st f (PySem.W.fnOf x q (kB st) (jB st) (iB st) F kV J L B j D):=⟨(N,O,F,kV,J,L,B,j,D,U,rfl,l,c),k⟩
theorem kF.okE {x B:Str} {st:Stmt} {f:Addr} {q:FuncData} {N j:!Str} {k:Nat} {sp:Sp} (D:kF K x B st f q) (S:mB N j (iB st)) (len:∀vs H Q E,sp vs H Q E->vs.length=j.length)
  (J:QD P w K mg base B st N k sp):sD P w K mg base (kE P w) (k+1) f q j sp:=by
 let(a2,a3,a0,kV,a1,a5,Y,F,Z,a4,rfl,V,L):=D.ex;show xT V L S len λA W s H vs Q E O U=>J f F A W s H vs Q E O U
def TH (K:PySem.W.Frag) (C:Addr) (m qual:Str) (st:Stmt) (ps:!Str) (dvs:!V):Prop:=∃f fd ds,JE K C m f/\kF K m qual st f fd/\iC K fd ps ds/\yB dvs ds
def ZE (K:PySem.W.Frag) (mg:Str->Option Value) (x:Str) (C:Addr) (qual:Str) (st:Stmt) (ps:!Str) (dvs:!V):Prop:=∃f fd ds,mg x=↑C/\Mk K C f/\kF K "__init__" qual st f fd/\iC K fd ps ds/\yB dvs ds
theorem TH.have {C:Addr} {m B:Str} {st:Stmt} {N j:!Str} {q:!V} {k:Nat} {sp:Sp} (D:TH K C m B st j q) (S:mB N j (iB st)) (len:∀vs H Q E,sp vs H Q E->vs.length=j.length)
  (J:QD P w K mg base B st N k sp):zB P w K mg base C m (k+1) j q sp:=
 let ⟨f,fd,ds,hm,F,hb,hd⟩:=D
 (f,fd,ds,hm,hb,hd,F.okE S len J)
theorem ZE.have {C:Addr} {x B:Str} {st:Stmt} {N j:!Str} {q:!V} {k:Nat} {sp:Sp} (D:ZE K mg x C B st j q) (S:mB N j (iB st)) (len:∀vs H Q E,sp vs H Q E->vs.length=j.length)
  (J:QD P w K mg base B st N k sp):kC P w K mg base x C (k+1) j q sp:=
 let ⟨f,fd,ds,hm,M,F,hb,hd⟩:=D
 (f,fd,ds,hm,M,hb,hd,F.okE S len J)
end
theorem YX {K:PySem.W.Frag} {B:FuncData} {q:!Str} {j:!Value} (n:Nat) (F:q.length=n+j.length) (h:∀(s:Shared) (us:!Value),K.In s.heap->us.length=n->BindsTo s B ⟨us,[]⟩ (q.zip (us++j))):iC K B q j:=
 λs us X D=>h s us X (by rw[HA,F] at D;omega)
def JM (K:PySem.W.Frag):R2:=λx y H Q=>FG K x y H Q\/hJ K x y H Q
theorem ZX {X:Cx}:nG X (JM X.K):=FE.or iJ
section
variable {X:Cx}
end
theorem yB.at {xs:!V} {us:!Value} (r:yB xs us) (m:Nat) (h1:m < xs.length) (h2:m < us.length):CB xs[m] us[m]:=by
 let(u,j,q):=r.get (BA h1);rw[BA h2] at j;cases j;show q
section
variable {prog:Program} {w:World} {K:Type} [DecidableEq K] {knd:HeapKind prog w K} {A:Around} {E:Value->Shared->Prop} {s:Shared}
end
def QG (h:Heap) (d:Addr) (es:Array DictEntry) (ep:Nat):Prop:=∃o,h.get? d>o/\o.ExactDict/\o.data=.dict es ep
theorem QG.ty {s:Shared} {d:Addr} {j:Array DictEntry} {ep:Nat} (r:QG s.heap d j ep):s.TypeIs (.ref d) "dict":=let ⟨o,ho,hc,_⟩:=r;(o,ho,hc.1)
theorem QG.lt {h:Heap} {d:Addr} {j:Array DictEntry} {ep:Nat} (r:QG h d j ep):d < h.objs.size:=let ⟨_,ho,_⟩:=r;dA ho
section
variable {prog:Program} {w:World} {A:Around} {E:Value->Shared->Prop} {s:Shared} {d it:Addr} {es:Array DictEntry} {ep i:Nat}
end
def ZF (wi:TI) (k:Nat) (ix:!Nat) (g:TG) (tt:TT) (te:TE) (h:RE g tt te):TE:=λσ H Q=>wi σ H λJ H1=>∀D,H1 D=none->jF g tt te h J (List.replicate k none++ix.map λi=>(σ[i]?).join) D (λH'=>Q (.ref D) H') H1
section
variable {X:Cx}
theorem aY {N L U:Expr} {V:!Expr} {scope:Scope} {pos:Pos} {x:Str} {xs fs:!Str} {ix:!Nat} {a0:TI} {g:TG} {Z:TT} {Y:TE} (b3:X.calm=true) (bd:PI X N L a0) (bl:CD scope X.env x fs=true) (be:ix.map (X.N[·]?)=fs.map some)
  (bc:∀F C B j J D,PG (UB X scope F C (xs++fs) B j J D) N g) (bb:∀F C B j J D,PF (UB X scope F C (xs++fs) B j J D) V Z) (b5:∀F C B j J D,PE (UB X scope F C (xs++fs) B j J D) U Y) (c0:∀x,foldedSetIterable L X.env x=pure x:=by intro _;rfl):
  PE X (.ListComp U [(N,L,V,0)] scope pos) (ZF a0 xs.length ix g Z Y .mk):=by
 intro W s a1 H Q O h;let S:=bD.of bl;let(F,b4,a8,a9):=S.clos O;rw[eval_ListComp];show wpAny_comprehension_free (use:=none) rfl c0 b4 S.kind S.own (NB (bd W s a1 H _ O h) λv cl h1=>NB h1 λck co h2=>?_);let(ch,J,cs,cd,ca,e,a5,T,c3,ad,q):=h2;subst e;show SX (xs:=xs) (RR:=λa6 C=>compPost (model X.prog X.w) X.A X.xe none (EP X W a1 Q) a6 C) a5 T.g c3 ad (λο ο ο ο=>b3) S a8 a9 be (λC B j D=>bc F C B j J D) (λC B j D=>bb F C B j J D) (λC B j D=>b5 F C B j J D) q λa2 C a3 s' a4 c2 ⟨m,bm⟩ ⟨ab,ac,_,ah,ap,b1⟩=>?_;show(m,bm,λh' c1=>(.ref a2,a3,a4.turned (t':=s'.toks) (λa7 o b2 e=>(c1.2 a7 b2).trans e) ab ac ah ap b1,rfl,c2))
end
def JD (v d:Addr):HO:=.ext λh=>PySem.W.KdlKeysView h v d
def UH (td:TE):TE:=λσ H Q=>td σ H λx H1=>∃a kvs,x=.ref a/\H1 a>(.dK kvs)/\∀v,H1 v=none->Q (.ref v) (uB H1 v (JD v a))
theorem jb {X:Cx} {o:Expr} {L:TE} {D F:Pos} (W:PE X o L) (U:attributeBase o "keys" X.env (eval o X.env)=eval o X.env:=by rfl) (V:(D.endLine == F.line)=true:=by rfl):PE X (.Call (.Attribute o "keys" D) [] [] F) (UH L):=by
 intro Y s a2 H Q N h;show wpAny_Call_method0_late U V (NB (W Y s a2 H _ N h) λu B zz=>?_);let(x,a3,j,Z,a,kvs,O,J,q):=zz;subst O;obtain rfl:u=Value.ref a:=Z;let(a0,a1,_):=xX j (.inl ⟨kvs,.inl J⟩);let(_,nd,vs,_,dd):=oG j.hok (.inl J);show("dict","dict.keys",PySem.F.plainAttrs_dict,PySem.F.slot_dict_keys,PySem.F.type_dict_keys,a0,a1,Calls.callWith_builtin rfl (PySem.evalArgs_none ?_));show call_meetsIn PySem.F.slot_dict_keys dd.typeIs PySem.F.entry_dict_keys (PySem.F.args_dict_keys_1 _) (PySem.W.kdl_meets_keys (MB X.prog X.w) a nd) ⟨⟨vs,dd⟩,?_⟩;show(.ref B.heap.objs.size,_,j.laid (t':=B.toks) (λa4 u e=>cA _ e) (eA _) (o:=JD B.heap.objs.size a) ((_,jA _ rfl,rfl,rfl),⟨_,jA _ rfl⟩,λh1 h2 ⟨o,e,c,d⟩ k=>(o,k o e,c,d)),rfl,q _ (j.hok.fresh (eA _)))
theorem pb {X:Cx} (a4:X.calm=true):TC X (.builtin "sorted") (λxs H Q=>∃(v F:Addr) (kvs:!(Key×V)) (ns:!Int),xs=[.ref v]/\H v>(JD v F)/\H F>(.dK kvs)/\kvs.map (·.1)=ns.map inl/\ns.length < 64/\
  ∀l D,H l=none->List.Perm D ns->D.Pairwise (·<=·)->Q (.ref l) (uB H l (.lst (D.map V.int)))):=by
 intro ap s b3 H xs us Q J r h;let(v,F,kvs,ns,rfl,a9,a8,W,a2,q):=h;let(u,rfl,b1):=rE r;cases b1;let(_,b4,vs,Y,dd):=oG J.hok (.inl a8);let(ep,a3):=dd.dictAt;let ac:PySem.W.KdlKeysView s.heap v F:=(J.hok v _ a9).1;let a7:vs.length=ns.length:=by
  have:=congrArg List.length W;rw[rA,rA] at this;rw[<-Y.length,this]
 show VX (PySem.W.kdl_keys (knd:=MB X.prog X.w) (kvs:=vs) (ep:=ep) (r:=v) (d:=F)) (J.ok.hd a4) ⟨ac,a3⟩ ns a7 a2 (λj x ad=>?_) λh1 h' l L out e D k0 k1 k2 k3 Z O a0=>?_
 .let(k,b2,ah,a5):=ad;let(b5,ab,_):=ZT Y j k b2 ah;let B:(kvs.map (·.1))[j]?>k:=by rw[RA,ab];rfl
  rw[W,RA] at B;cases U:ns[j]? with
  |none=>rw[U] at B;cases B
  |some i=>
   rw[U] at B;cases B;let(t,a1):=Value.isInt_shape (k:=i) (v:=x) a5;show(t,i,rfl,a1)
 .let a6:=O.length_eq;let N:rB X ap b3 H {s with heap:=h1,toks:=L}:=J.kept (t':=L) k0;show(.ref l,_,N.laid (t':=L) k1 k2 (show LB X.prog X.w _ _ _ (.lst (D.map V.int)) from (by rw[rA,a6,sizeLine_eq];omega,out.toList,e,YT Z,k3)),rfl,q _ _ (N.hok.fresh k2) O a0)
theorem bY {X:Cx} {K:PySem.W.Frag} {j:!Expr} {k:Nat} {pos:Pos} {t:TGs} {n:Nat} (h:X.K=K) (q:X.calm=true) (D:bM X j t) (B:(assignEach j X.env).length=n:=by rfl) (F:(assignEach j X.env).findIdx? (·.1)=none:=by rfl):PG X (.Tuple j k pos) (YI K n t):=h ▸ UW q D B F
def KD (v d:Addr):HO:=.ext λh=>h.IsValuesView v d
def VH (td:TE):TE:=λσ H Q=>td σ H λx H1=>∃a kvs,x=.ref a/\H1 a>(.dK kvs)/\∀v,H1 v=none->Q (.ref v) (uB H1 v (KD v a))
theorem qb {X:Cx} {o:Expr} {L:TE} {D F:Pos} (W:PE X o L) (U:attributeBase o "values" X.env (eval o X.env)=eval o X.env:=by rfl) (V:(D.endLine == F.line)=true:=by rfl):PE X (.Call (.Attribute o "values" D) [] [] F) (VH L):=by
 intro Y s a2 H Q N h;show wpAny_Call_method0_late U V (NB (W Y s a2 H _ N h) λu B zz=>?_);let(x,a3,j,Z,a,kvs,O,J,q):=zz;subst O;obtain rfl:u=Value.ref a:=Z;let(a0,a1,_):=xX j (.inl ⟨kvs,.inl J⟩);let(_,nd,vs,_,dd):=oG j.hok (.inl J);show("dict","dict.values",PySem.F.plainAttrs_dict,PySem.F.slot_dict_values,PySem.F.type_dict_values,a0,a1,Calls.callWith_builtin rfl (PySem.evalArgs_none ?_));show call_meetsIn PySem.F.slot_dict_values dd.typeIs PySem.F.entry_dict_values (PySem.F.args_dict_values_1 _) (meets_dict_values (MB X.prog X.w) a nd) ⟨⟨vs,dd⟩,?_⟩;show(.ref B.heap.objs.size,_,j.laid (t':=B.toks) (λa4 u e=>cA _ e) (eA _) (o:=KD B.heap.objs.size a) ((_,jA _ rfl,rfl,rfl),⟨_,jA _ rfl⟩,λh1 h2 ⟨o,e,c,d⟩ k=>(o,k o e,c,d)),rfl,q _ (j.hok.fresh (eA _)))
def bU (a:Addr) (o:Obj) (kvs:!(Key×V)):It:=
 (λi H=>H a>(.frz o (.dK kvs))/\i < kvs.length,λi H x H'=>H'=H/\∃k,kvs[i]?>(k,x),λi H=>H a>(.frz o (.dK kvs))/\kvs.length<=i)
theorem rb {P:Program} {w:World} {K:PySem.W.Frag} {b5:Expr} (a D:Addr) (o:Obj) (kvs:!(Key×V)) (ep:Nat) {es} (a7:o.data=.dict es ep):HE P w K b5 (bU a o kvs) [D] D (λi h=>h.IsValIter D a i kvs.length ep) where
 mem:=by simp
 obj:=λi h st j q=>by
  let e:j=D:=by simpa using q
  subst e;let(o,e,c,d):=st;show(o,e,λv ab=>by rw[d] at ab;cases ab)
 keep:=λi h h' st k=>st.at λo e=>k D (by simp) o e
 item:=by
  intro X a2 a4 a1 a6 i a9 s ac H E F L st B;subst a2 a4 a1;let(B,a3):=B;let(vs,N,O,_):=aU F B a7;let(U,W,ap,Y,Z,a0):=L D (by simp);let J:=N.length;let rY:i < vs.length:=by rw[<-J];show a3
  obtain⟨⟨k,x⟩,a8⟩:∃b2,vs[i]?>b2:=⟨_,BA rY⟩
  let(v,b1,b3):=ZT N i k x a8;rw[J] at st;show wpAny_pyNext_values_item st O a8 λh' a5 b4=>?_;let ad:rB X a9 ac H {s with heap:=h'}:=F.turned (t':=s.toks) (λj o q e=>(b4.2 j q).trans e) U W Y Z a0;let(bb,e,c,d):=id a5;rw[<-J] at a5;show(x,rfl,qT (s:={s with heap:=h'}) e c d (by decide) (v,H,ad,b3,(rfl,k,b1),a5,λj q=>(L j q).1))
 done:=by
  intro X a2 a4 a1 a6 i a9 s ac H E F L st B;subst a2 a4 a1;let(B,a3):=B;let(vs,N,O,_):=aU F B a7;let(U,W,ap,Y,Z,a0):=L D (by simp);let J:=N.length;rw[J] at st;show wpAny_pyNext_values_end (F.ok.hd a6) st O (List.getElem?_eq_none_iff.mpr (by rw[<-J];show a3)) λh' ah=>⟨rfl,F.turned (t':=s.toks) (λj o q e=>ah j o q e) U W Y Z a0⟩
 self:=λο ο ο ο ο st h=>wpAny_pyIter_valiter st h
def WH (tl:TE):TI:=λσ H R=>tl σ H λx H1=>∃v a kvs,x=.ref v/\H1 v>(KD v a)/\H1 a>(.dK kvs)/\∀o,R (bU a o kvs) (uB H1 a (.frz o (.dK kvs)))
theorem ub {X:Cx} {a8 l:Expr} {U:TE} (a0:PE X l U):PI X a8 l (WH U):=by
 intro a5 s a9 H ab V h;show NB (a0 a5 s a9 H _ V h) λv j zz=>?_;let(x,F,D,a7,a6):=zz;let(vw,a,kvs,e,a3,N,q):=a6;subst e;cases a7;let(o,a2,B):=D.freeze N;let(_,_,vs,O,ah,ac,ep,L,c,d,r):=D.hok a _ N;rw[a2] at L;cases L;let(vs,O,W,ad):=aU B KB d;let a4:j.heap.IsValuesView vw a:=(D.hok vw _ a3).1;show wpAny_pyIter_values a4 W ?_;let a1:kvs.length=vs.length:=O.length;let Z:uB F a (.frz o (.dK kvs)) j.heap.objs.size=none:=B.hok.fresh (eA _);show(j.heap.objs.size,[j.heap.objs.size],_,_,uB F a (.frz o (.dK kvs)),rfl,B.kept (t':=j.toks) λJ o e=>cA _ e,rb a _ o kvs ep d,(_,jA _ rfl,rfl,by rw[a1];rfl),λJ Y=>?_,q o);let e:J=j.heap.objs.size:=by simpa using Y
 subst e;show B.fpOk (eA _) Z
theorem vb {a:Addr} {o:Obj} {kvs:!(Key×V)} {g:TG} {O:TT} {N:TE} {h:RE g O N} {Z:St} {F:Addr} {Q:Hp->Prop} {H:Hp} (D:Nat->!V->St->Hp->Prop) (h0:D 0 [] Z (uB H F (.lst []))) (a5:∀i j B H,i<=kvs.length->D i j B H->H a>(.frz o (.dK kvs)))
  (a6:∀i k x j B H,kvs[i]?>(k,x)->D i j B H->g x B H λJ a0=>O J a0 λa1 U=>if a1=true then N J U λv W=>W F>(.lst j)/\j.length < sizeLine/\D (i+1) (j++[v]) J (uB W F (.lst (j++[v]))) else D (i+1) j J U) (a3:∀j B H,D kvs.length j B H->Q H):
  jF g O N h (bU a o kvs) Z F Q H:=by
 show(λi m j B H=>i+m=kvs.length/\D i j B H,(kvs.length,Nat.zero_add _,h0),λi m j B H ⟨e,L⟩=>?_);let Y:=a5 i j B H ⋯ L;by_cases a4:i < kvs.length
 .show .inr (⟨Y,a4⟩,D (i+1),λj B H q=>(m - 1,⋯,⋯,q),?_);rintro a8 a9 ⟨rfl,k,a7⟩;show a6 i k a8 j B _ a7 L
 .let a2:i=kvs.length:=⋯;subst a2;show .inl ⟨⟨Y,eA _⟩,a3 j B H L⟩
section
variable {prog:Program} {w:World} {A:Around} {E:Value->Shared->Prop} {s:Shared}
end
def aF (i:Nat):TE:=λσ H Q=>match σ[i]? with
 |some (some v)=>Q v H
 |_=>False
set_option tactic.hygienic true in
theorem wb {i:Nat} {σ:St} {H:Hp} {Q:VK} (h:aF i σ H Q):RI i σ H Q:=by
 unfold aF at h
 split at h
 .rename_i v e;show(v,e,h)
 .show h.elim
theorem oB {X:Cx} (i:Nat) {x:Str} {pos:Pos} (q:X.N[i]?>x:=by rfl) (F:cT X.env.scope x:=by first|exact Or.inl rfl|exact Or.inr (Or.inl rfl)|exact Or.inr (Or.inr rfl)) (D:(x == ("__debug__":Str))=false:=by decide)
 (B:(x == ("__classdict__":Str))=false:=by decide):PE X (.Name x pos) (aF i):=λJ s L H Q j h=>SI q F D B J s L H Q j (wb h)
theorem AJ {g:Int->Int->V} {i j:Int} {H:Hp} {Q:VK}:CG g (.int i) (.int j) H Q=Q (g i j) H:=propext ⟨λ⟨_,_,q,B,h⟩=>by cases q;cases B;show h,λh=>(_,_,rfl,rfl,h)⟩
theorem KM {C:Int->Int->Prop} {g:Int->Int->V} {i j:Int} {H:Hp} {Q:VK}:rI C g (.int i) (.int j) H Q=(C i j/\Q (g i j) H):=propext ⟨λ⟨_,_,q,B,h⟩=>by cases q;cases B;show h,λh=>(_,_,rfl,rfl,h)⟩
theorem BJ {c:Int} {P:Int->Prop}:(∃i,V.int c=V.int i/\P i)=P c:=propext ⟨λ⟨_,e,h⟩=>by cases e;show h,λh=>(_,rfl,h)⟩
theorem LM {c:Bool} {P:Bool->Prop}:(∃i,V.bl c=V.bl i/\P i)=P c:=propext ⟨λ⟨_,e,h⟩=>by cases e;show h,λh=>(_,rfl,h)⟩
theorem CJ {c:Addr} {P:Addr->Prop}:(∃i,V.ref c=V.ref i/\P i)=P c:=propext ⟨λ⟨_,e,h⟩=>by cases e;show h,λh=>(_,rfl,h)⟩
section
open PySem.Builtin PySem.Builtin.Str
end
structure uC (k:Nat) (A:Around):Prop where
 dp:A.depth+3 * k+5 < recursionLimit
 un:A.units+16 * k+200 < cLine
theorem YB.h {k:Nat} {A:Around} (r:YB k A):uC k A:=⟨r.dp,r.un⟩
theorem uC.mono {j k:Nat} {A:Around} (r:uC k A) (h:j<=k):uC j A:=⟨by have:=r.dp;omega,by have:=r.un;omega⟩
theorem uC.mark {k:Nat} {A:Around} (r:uC k A) {v:Option Value}:uC k (A.mark v):=⟨r.dp,r.un⟩
theorem uC.deeper {k:Nat} {A:Around} (r:uC (k+1) A) (env:Env):uC k (A.deeper env):=
 ⟨by have:=r.dp;change A.depth+1+3 * k+5 < _;omega,by have:=r.un;change A.units+3+16 * k+200 < _;omega⟩
structure YH (P:Program) (w:World) (K:PySem.W.Frag) (mg:Str->Option Value) (base:Heap) (k:Nat) (f:Addr) (fd:FuncData) (ps:!Str) (sp:Sp):Prop where
 len:∀vs H Q E,sp vs H Q E->vs.length=ps.length
 run:∀(A:Around) (outer:!Env) (s:Shared) (H:Hp) (args:Args) (us:!Value) (vs:!V) (Q:VK) (E:XK),uC k A->fE P w K mg base A outer s H->BindsTo s fd args (ps.zip us)->yB vs us->sp vs H Q E->
  codeAny (model P w) A (.call (.ref f) args) (CR (kE P w) outer P w H s Q E) s
def yE (P:Program) (w:World) (K:PySem.W.Frag) (mg:Str->Option Value) (base:Heap) (N:!Str) (qual:Str) (scope:Scope) (f:Addr) (cd:Value) (A:Around) (outer:!Env) (s:Shared) (H:Hp) (E:XK):Cx:=
 {rC (kE P w) P w K mg base N qual scope f cd A outer s H E with calm:=false}
theorem Tb {P:Program} {w:World} {K:PySem.W.Frag} {mg:Str->Option Value} {base:Heap} {N B:!Str} {F:Str} {scope:Scope} {f:Addr} {D:Value} {A:Around} {J:!Env} {s L:Shared} {H:Hp} {E:XK} {us:!Value} {vs:!V}
  (S:mB N B scope) (q:fE P w K mg base A J s H) (O:vs.length=B.length) (r:yB vs us)
  (x:InCallC s s.heap.objs.size (bindL (envOfC F scope s.heap.objs.size f D).kindOf (B.zip us) λο=>none) (cellsFrom (s.heap.objs.size+1) scope.names []) (bindC (envOfC F scope s.heap.objs.size f D).kindOf (B.zip us) λο=>none) L):
  rB (yE P w K mg base N F scope f D A J s H E) [] (nC N vs) H L:=by
 let j:=mX (CX:=kE P w) (E:=E) (A:={A with handled:=none}) S rfl (q.frames,q.mod,q.bs,q.bsz,q.funs,q.frf,q.hok,q.bare) O r x;show((j.ok.mod,j.ok.kind,j.ok.glob,j.ok.blt,j.ok.above,j.ok.inj,j.ok.has,j.ok.cab,λU=>Bool.noConfusion U,Around.frames_deeper q.frames,j.ok.stk,j.ok.exf,j.ok.bs,j.ok.bsz,j.ok.noex,j.ok.exfs,j.ok.funs,j.ok.frf),
  j.os,j.bare,j.base,j.loc,j.cell,j.free,j.freeC,j.pin,j.hok,j.len)
def ZH (P:Program) (w:World) (K:PySem.W.Frag) (mg:Str->Option Value) (base:Heap) (qual:Str) (st:Stmt) (N:!Str) (k:Nat) (sp:Sp):Prop:=
 ∀(f:Addr) (cdv:Value) (A:Around) (outer:!Env) (s:Shared) (H:Hp) (vs:!V) (Q:VK) (E:XK),uC k (A.deeper (envOfC qual (iB st) s.heap.objs.size f cdv))->sp vs H Q E->
  ∃t,DD (yE P w K mg base N qual (iB st) f cdv A outer s H E) (jB st) t/\t {nx:=λο H'=>Q .non H',rt:=Q} (nC N vs) H
theorem uE.okH {P:Program} {w:World} {K:PySem.W.Frag} {mg:Str->Option Value} {base:Heap} {x O:Str} {st:Stmt} {f:Addr} {a2:FuncData} {N L:!Str} {k:Nat} {sp:Sp} (a7:uE K x O st f a2) (S:mB N L (iB st)) (len:∀vs H Q E,sp vs H Q E->vs.length=L.length)
  (ac:ZH P w K mg base O st N k sp):YH P w K mg base (k+1) f a2 L sp:=by
 let(bl,bm,kV,be,c1,bc,Y,bd,c0,rfl,bb,ad):=a7.ex;show⟨len,λA J s H args us vs Q E a4 F ab r a5=>?_⟩;let b1:=len _ _ _ _ a5;let a1:K.In s.heap:=F.mod.kin.keeps λW o e=>(F.bs W o e).1;let b5:s.heap.NoLimit:=F.mod.nolimit.keeps λW o e=>(F.bs W o e).1;let ap:∀a0∈L.zip us,(iB st).names.lookup a0.1>.local\/((iB st).names.lookup a0.1>.cell/\((cellsFrom (s.heap.objs.size+1) (iB st).names []).lookup a0.1).isSome=true):=λ⟨n,v⟩ b4=>by
  let q||q:=S.par n (List.of_mem_zip b4).1
  .show .inl q
  .show .inr ⟨q,PySem.W.cellsFrom_some _ _ _ (.inl q)⟩
 show codeAny_call_function (by have:=a4.dp;omega) (a1 _ _ bb) rfl S.co S.gen rfl (PySem.W.codeRec_of a1 ad) (ab _ _ _ _ ?_);show wpAny_newFunctionEnv_cells S.kind ap λenv ah a6 x=>?_;subst ah;show⟨b5.keeps x.toInCall.keep,codeAny_func ?_⟩;let(t,b3,b2):=ac f Y A J s H vs Q E (a4.deeper _) a5;let a8:rB (yE P w K mg base N O (iB st) f Y A J s H E) [] (nC N vs) H a6:=Tb S F b1 r x;show EA (b3 [] a6 (nC N vs) H _ a8 b2) (λa9 s' D=>?_) λe s' D=>D;let a3:∀{U:St} {B:Hp} {v:V} {u:Value},rB (yE P w K mg base N O (iB st) f Y A J s H E) [] U B s'->CB v u->Q v B->CE J P w H s Q u s':=
  λ{U B v u} j Z q=>(v,B,j.os,j.bare,j.base,j.hok,Z,q)
 cases a9 with
 |ret u=>
  let(v,U,B,j,Z,q):=D;show a3 j Z q
 |next=>
  let(U,B,j,q):=D;show a3 (v:=V.non) (u:=Value.none) j rfl q
 |brk=>
  let(_,_,_,q):=D;show False.elim q
 |cont=>
  let(_,_,_,q):=D;show False.elim q
def aG (P:Program) (w:World) (K:PySem.W.Frag) (mg:Str->Option Value) (base:Heap) (x:Str) (k:Nat) (ps:!Str) (sp:Sp):Prop:=
 ∃f fd,mg x=↑f/\PySem.W.keepIn K (.ref f)=true/\iC K fd ps []/\YH P w K mg base k f fd ps sp
theorem ND.haveH {P:Program} {w:World} {K:PySem.W.Frag} {mg:Str->Option Value} {base:Heap} {x B:Str} {st:Stmt} {N j:!Str} {k:Nat} {sp:Sp} (D:ND K mg x B st j []) (S:mB N j (iB st)) (len:∀vs H Q E,sp vs H Q E->vs.length=j.length)
  (L:ZH P w K mg base B st N k sp):aG P w K mg base x (k+1) j sp:=by
 let(f,F,V,U,q,J,O):=D;cases O;show(f,F,U,q.kp,J,q.okH S len L)
theorem gY {X:Cx} {k:Nat} {N:!Str} {sp:Sp} {x:Str} {a9 pos:Pos} {e:Expr} {j:!Expr} {t:TA} (F:aG X.prog X.w X.K X.mg X.base x k N sp) (a8:uC k X.A) (Z:PA X (e::j) t) (a3:Gl X x:=by rfl) (a1:(x == ("__debug__":Str))=false:=by decide)
  (a2:starEach (e::j) X.env=(false,eval e X.env)::starEach j X.env:=by rfl) (a7:(backTo pos (starEach j X.env)).any (·.1)=false:=by rfl):
  PE X (.Call (.Name x a9) (e::j) [] pos) (ME (λο ο ο=>False) sp [] t):=by
 let(f,b1,a6,a4,a0,F):=F;intro ab s ac H Q L h;show aB (UI L a3 a6 ?_ a1);show PySem.W.callWith_K (h₀:=X.base) L.ok.mod.kin a4 (NB (Z pos ab s ac H _ L h) λus U ⟨vs,V,J,r,q⟩=>⟨J.kIn,?_⟩) a2 a7;let O:yB (vs++[]) (us++[]):=r.append .nil;let a5:(us++[]).length=N.length:=by rw[<-O.length];show F.len _ _ _ _ q
 show wpAny_call (codeAny_mono (F.run X.A X.stack U V ⟨us,[]⟩ (us++[]) (vs++[]) Q _ a8 J.env0 (a0 U us J.kIn a5) O q) λr s' D=>?_);cases r with
 |error e=>
  let(ap,cls,ad,B,rfl,b4,ah,un,b3,b2,Y):=D;show Y.elim
 |ok W=>
  cases W with
  |ret u=>show J.after D
  |next=>show False.elim D
  |brk=>show False.elim D
  |cont=>show False.elim D
def rCatS:R2:=λx y H Q=>∃a b,x=.str a/\y=.str b/\a.length+b.length<=16777216/\Q (.str (a++b)) H
theorem dU {X:Cx}:zD X (binaryOp .Add) rCatS:=by
 intro L s V H x U v u Q j D F h;let(a,B,rfl,rfl,J,q):=h;let(t,rfl):=D;let(N,rfl):=F;show add_str (λt' O=>(.str (a++B),H,j.tok _,⟨_,rfl⟩,q)) (by rw[sizeLine_eq];omega)
theorem Ub {P:Program} {w:World} {K:PySem.W.Frag} {mg:Str->Option Value} {base:Heap} {N:!Str} {B:Str} {scope:Scope} {f:Addr} {j:Value} {A:Around} {q:!Env} {s:Shared} {H:Hp} {E:XK}:(yE P w K mg base N B scope f j A q s H E).K=K:=rfl
def bG (K:PySem.W.Frag) (fd:FuncData) (ps ks:!Str):Prop:=∀(s:Shared) (us:!Value) (a b:Value),K.In s.heap->us.length+2=ps.length->BindsTo s fd ⟨us,ks.zip [a,b]⟩ (ps.zip (us++[b,a]))
def aI (K:PySem.W.Frag) (C:Addr) (m qual:Str) (st:Stmt) (ps ks:!Str):Prop:=∃f fd,JE K C m f/\kF K m qual st f fd/\bG K fd ps ks
def DJ (P:Program) (w:World) (K:PySem.W.Frag) (mg:Str->Option Value) (base:Heap) (C:Addr) (m:Str) (k:Nat) (ps ks:!Str) (sp:Sp):Prop:=
 ∃f fd,JE K C m f/\bG K fd ps ks/\sD P w K mg base (kE P w) k f fd ps sp
theorem aI.have {P:Program} {w:World} {K:PySem.W.Frag} {mg:Str->Option Value} {base:Heap} {C:Addr} {m q:Str} {st:Stmt} {N j ks:!Str} {k:Nat} {sp:Sp} (B:aI K C m q st j ks) (S:mB N j (iB st)) (len:∀vs H Q E,sp vs H Q E->vs.length=j.length)
  (D:QD P w K mg base q st N k sp):DJ P w K mg base C m (k+1) j ks sp:=
 let ⟨f,fd,hm,F,hb⟩:=B
 (f,fd,hm,hb,F.okE S len D)
section
variable {prog:Program} {w:World} {A:Around} {E:Value->Shared->Prop} {s:Shared}
end
section
variable {X:Cx}
end
section
variable {prog:Program} {w:World} {A:Around} {E:Value->Shared->Prop} {s:Shared}
end
section
variable {X:Cx}
end
section
variable {X:Cx} {pins:!(Addr×Obj)} {σ:!(Option V)} {H:Hp} {s:Shared} {a:Addr}
end
section
open PySem.W
def In (p:Array Nat) (n:Nat):Prop:=0 < n/\∀x∈p.toList,x < n
theorem In.at {p:Array Nat} {n:Nat} (h:In p n) (i:Nat):p.getD i 0 < n:=by
 rw[WA];cases e:p[i]? with
 |none=>show h.1
 |some x=>show h.2 x (List.mem_of_getElem? (by rw[Array.getElem?_toList];show e))
theorem In.perm {j q:Array Nat} {n:Nat} (h:In j n) (e:q.Perm j):In q n:=⟨h.1,λx B=>h.2 x ((Array.perm_iff_toList_perm.mp e).mem_iff.mp B)⟩
structure Od (lt:Nat->Nat->Bool) (n:Nat):Prop where
 tr:∀i j k,i < n->j < n->k < n->lt i j=true->lt j k=true->lt i k=true
 ir:∀i,i < n->lt i i=false
 to:∀i j,i < n->j < n->i≠j->lt i j=true\/lt j i=true
variable {lt:Nat->Nat->Bool} {n:Nat}
structure Pm (p:Array Nat) (n:Nat):Prop where
 sz:p.size=n
 lt:∀i,i < n->p.getD i 0 < n
 ne:∀i j,i < n->j < n->i≠j->p.getD i 0≠p.getD j 0
 pe:p.Perm (List.range n).toArray
def Up (lt:Nat->Nat->Bool) (p:Array Nat) (m:Nat):Prop:=∀i j,i < j->j < m->lt (p.getD i 0) (p.getD j 0)=true
def Dn (lt:Nat->Nat->Bool) (p:Array Nat) (m:Nat):Prop:=∀i j,i < j->j < m->lt (p.getD j 0) (p.getD i 0)=true
theorem Up.succ {q:Array Nat} {m:Nat} (o:Od lt n) (B:Pm q n) (h:Up lt q m) (h1:1<=m) (L:m < n) (c:lt (q.getD (m - 1) 0) (q.getD m 0)=true):Up lt q (m+1):=λi j J D=>by
 let D||rfl:=(by omega:j < m\/j=m)
 .show h i j J D
 .let F||rfl:=(by omega:i < j - 1\/i=j - 1)
  .show o.tr _ _ _ (B.lt _ ⋯) (B.lt _ ⋯) (B.lt _ L) (h i (j - 1) F ⋯) c
  .show c
theorem Dn.succ {q:Array Nat} {m:Nat} (o:Od lt n) (B:Pm q n) (h:Dn lt q m) (h1:1<=m) (L:m < n) (c:lt (q.getD m 0) (q.getD (m - 1) 0)=true):Dn lt q (m+1):=λi j J D=>by
 let D||rfl:=(by omega:j < m\/j=m)
 .show h i j J D
 .let F||rfl:=(by omega:i < j - 1\/i=j - 1)
  .show o.tr _ _ _ (B.lt _ L) (B.lt _ ⋯) (B.lt _ ⋯) c (h i (j - 1) F ⋯)
  .show c
theorem other {q:Array Nat} (o:Od lt n) (B:Pm q n) {i j:Nat} (D:i < n) (F:j < n) (ne:i≠j) (c:lt (q.getD i 0) (q.getD j 0)=false):lt (q.getD j 0) (q.getD i 0)=true:=by
 let h||h:=o.to _ _ (B.lt i D) (B.lt j F) (B.ne i j D F ne)
 .rw[h] at c;cases c
 .show h
end
section
variable {prog:Program} {w:World} {A:Around} {E:Value->Shared->Prop} {s:Shared}
end
section
variable {prog:Program} {w:World} {K:Type} [DecidableEq K] {knd:HeapKind prog w K} {A:Around} {E:Value->Shared->Prop} {s:Shared}
end
section
variable {M:Model} {A:Around} {E:Value->Shared->Prop} {s:Shared} {env:Env}
end
section
variable {M:Model} {A:Around} {E:Value->Shared->Prop} {s:Shared} {env:Env}
end
section
variable {X:Cx}
end
section
variable {prog:Program} {w:World} {A:Around} {E:Value->Shared->Prop} {s:Shared}
end
section
variable {prog:Program} {w:World} {A:Around} {E:Value->Shared->Prop} {s:Shared}
end
section
variable {X:Cx}
end
section
variable {K:PySem.W.Frag} {h:Heap} {mg:Str->Option Value} {x qual:Str} {st:Stmt} {ps:!Str} {C f:Addr} {oc:Value} {od an:Option Addr} {osl:Array (Option Value)} {kV doc pm cdv ct:Value}
def GF (K:PySem.W.Frag) (x:Str) (st:Stmt):Prop:=∃f fd,PySem.W.nsIn K mainGlobals x>(↑f)/\uE K x x st f fd
theorem GF.mk (a:PySem.W.nsIn K mainGlobals x>(↑f)) (l:K.lookup f>(oc,od,.func (PySem.W.fnOf x x (kB st) (jB st) (iB st) .none kV doc pm an cdv ct),osl)) (c:PySem.W.codeIn K cdv x=true) (k:PySem.W.keepIn K (.ref f)=true):GF K x st:=(_,_,a,JT l c k)
theorem GF.raw (g:GF K x st) (X:K.In h) (j:h.Ns mainGlobals mg) (B:∀(kV L N:Value) (q:Option Addr) (D J:Value) (us:!Value),us.length=ps.length->bindArgs (PySem.W.fnOf x x (kB st) (jB st) (iB st) .none kV L N q D J) ⟨us,[]⟩=pure (ps.zip us)):ND K mg x x st ps []:=
 let ⟨_,_,a,F⟩:=g
 (_,_,_,PySem.W.mg_of X j a,F,F.binds B,.nil)
theorem GF.law (g:GF K x st) (X:K.In h) (O:h.Ns mainGlobals mg) {L:Str} (U:∀(kV J N:Value) (B:Option Addr) (D F u:Value),bindArgs (PySem.W.fnOf x x (kB st) (jB st) (iB st) .none kV J N B D F) ⟨[u],[]⟩=pure [(L,u)]):∃f j,mg x=↑f/\uE K x x st f j/\∀(s:Shared) (u:Value),BindsTo s j ⟨[u],[]⟩ [(L,u)]:=by
 let(f,j,a,q):=g;show(f,j,PySem.W.mg_of X O a,q,λs u=>?_);let(Y,Z,kV,J,N,B,D,F,a0,rfl,W,V):=q.ex;show .of_eq (U ..)
def MF (K:PySem.W.Frag) (C:Addr) (x qual:Str) (st:Stmt):Prop:=∃f fd,JE K C x f/\uE K x qual st f fd
theorem MF.mk (a:PySem.W.findIn K (.ref C) x>(↑f)) (i:PySem.W.isFn K (.ref f)=true) (l:K.lookup f>(oc,od,.func (PySem.W.fnOf x qual (kB st) (jB st) (iB st) .none kV doc pm an cdv ct),osl)) (c:PySem.W.codeIn K cdv qual=true) (k:PySem.W.keepIn K (.ref f)=true):MF K C x qual st:=(_,_,(a,i,k),JT l c k)
theorem MF.raw (g:MF K C x qual st) (q:∀(kV J L:Value) (j:Option Addr) (B D:Value) (us:!Value),us.length=ps.length->bindArgs (PySem.W.fnOf x qual (kB st) (jB st) (iB st) .none kV J L j B D) ⟨us,[]⟩=pure (ps.zip us)):GB K C x qual st ps []:=
 let ⟨_,_,a,F⟩:=g
 (_,_,_,a,F,F.binds q,.nil)
def IF (K:PySem.W.Frag) (C:Addr) (qual:Str) (st:Stmt):Prop:=∃f fd,Mk K C f/\uE K "__init__" qual st f fd
theorem IF.mk (m:PySem.W.makesIn K C=true) (j:PySem.W.keepIn K (.ref C)=true) (a:PySem.W.findIn K (.ref C) "__init__">(↑f)) (i:PySem.W.isFn K (.ref f)=true) (l:K.lookup f>(oc,od,.func (PySem.W.fnOf "__init__" qual (kB st) (jB st) (iB st) .none kV doc pm an cdv ct),osl)) (c:PySem.W.codeIn K cdv qual=true) (k:PySem.W.keepIn K (.ref f)=true):IF K C qual st:=(_,_,(m,a,i,j),JT l c k)
theorem IF.raw (g:IF K C qual st) (X:K.In h) (j:h.Ns mainGlobals mg) (n:PySem.W.nsIn K mainGlobals x>(↑C)) (B:∀(kV L N:Value) (q:Option Addr) (D J:Value) (us:!Value),us.length=ps.length->bindArgs (PySem.W.fnOf "__init__" qual (kB st) (jB st) (iB st) .none kV L N q D J) ⟨us,[]⟩=pure (ps.zip us)):vD K mg x C qual st ps []:=
 let ⟨_,_,a,F⟩:=g
 (_,_,_,PySem.W.mg_of X j n,a,F,F.binds B,.nil)
end
namespace ST
def gS (m i:Nat):Nat:=(i * 5+1) % (m+1)
def iS (m:Nat):Nat->Nat->!Nat
 |0,_=>[]
 |k+1,i=>i::iS m k (gS m i)
theorem eU:∀i,i < 8->∀j,j < 8->j∈iS 7 8 i:=by decide
theorem OM:∀i,i < 32->∀j,j < 32->j∈iS 31 32 i:=∅
def lF (m:Nat):Nat->Nat->Nat
 |0,i=>i
 |k+1,i=>lF m k (gS m i)
theorem fU {m j:Nat}:∀{k i:Nat},j∈iS m k i->∃n,n < k/\lF m n i=j
 |0,_,h=>by cases h
 |k+1,i,h=>by
  let h||h:=iA.mp h
  .show(0,⋯,h.symm)
  .let(n,h1,h2):=fU h;show(n+1,⋯,h2)
def Mk (m:Nat):Prop:=m=7\/m=31
theorem Vb {m:Nat} (q:Mk m) {i j:Nat} (B:i<=m) (D:j<=m):∃n,n<=m/\lF m n i=j:=by
 let rfl||rfl:=q
 .let(n,h1,h2):=fU (eU i ⋯ j ⋯);show(n,⋯,h2)
 .let(n,h1,h2):=fU (OM i ⋯ j ⋯);show(n,⋯,h2)
def lp (m:Nat):Nat->Nat×Nat->Nat×Nat
 |0,x=>x
 |k+1,x=>SetTable.leap m (lp m k x).1 (lp m k x).2
theorem PM {m:Nat} {x:Nat×Nat} (h:x.1<=m):∀k,(lp m k x).1<=m
 |0=>h
 |k+1=>by
  change (_ % (m+1))<=m;have:=Nat.mod_lt ((lp m k x).1 * 5+1+(lp m k x).2 / 32) (show 0 < m+1 by omega);omega
theorem iY {m:Nat} {x:Nat×Nat}:∀k,(lp m k x).2=x.2 / 32 ^ k
 |0=>by change x.2=_;rw[Nat.pow_zero,Nat.div_one]
 |k+1=>by
  change (lp m k x).2 / 32=_;rw[iY k,Nat.div_div_eq_div_mul,Nat.pow_succ]
theorem EJ {m:Nat} {x:Nat×Nat} (q:x.2 < 2 ^ 64) {k:Nat} (j:13<=k):(lp m k x).2=0:=by
 rw[iY];apply Nat.div_eq_of_lt;have:(32:Nat) ^ 13<=32 ^ k:=Nat.pow_le_pow_right ⋯ j;let e:(32:Nat) ^ 13=2 ^ 65:=by decide
 omega
theorem jY {m:Nat}:∀{n i:Nat},lF m (n+1) i=gS m (lF m n i)
 |0,_=>rfl
 |n+1,i=>jY (n:=n) (i:=gS m i)
theorem kY {m:Nat} {x:Nat×Nat} (hx:x.2 < 2 ^ 64):∀n,(lp m (13+n) x).1=lF m n (lp m 13 x).1
 |0=>rfl
 |n+1=>by
  rw[jY,<-kY hx n];change ((lp m (13+n) x).1 * 5+1+(lp m (13+n) x).2 / 32) % (m+1)=_;rw[EJ hx ⋯]
  rfl
theorem FJ {m:Nat} (B:Mk m) {x:Nat×Nat} (h:x.1<=m) (D:x.2 < 2 ^ 64) {j:Nat} (q:j<=m):∃k,k<=13+m/\(lp m k x).1=j:=by
 let(n,h1,h2):=Vb B (PM h 13) q;show(13+n,⋯,by rw[kY D];show h2)
theorem Wb (h:Int):SetTable.bits h < 2 ^ 64:=by unfold SetTable.bits;omega
def QM (t:SetTable) (x:Nat×Nat):SetTable.Probe:=(x.1,SetTable.runEnd t.mask x.1 - x.1,x.1,x.2,none)
theorem lY {m:Nat} {x:Nat×Nat}:∀n,lp m (n+1) x=lp m n (SetTable.leap m x.1 x.2)
 |0=>rfl
 |n+1=>by
  change SetTable.leap m (lp m (n+1) x).1 (lp m (n+1) x).2=_;rw[lY n]
  rfl
theorem mY {m:Nat} {ow:Array (Option Nat)}:∀{n fuel:Nat} {x:Nat×Nat},n < fuel->ow.getD (lp m n x).1 (some 0)=none->∃j,SetTable.layClean.free m ow fuel x.1 x.2>j/\ow.getD j (some 0)=none
 |n,fuel+1,x,hf,he=>by
  unfold SetTable.layClean.free;cases e:(List.range (SetTable.runEnd m x.1+1 - x.1)).find? λk=>(ow.getD (x.1+k) (some 0)).isNone with
  |some k=>
   let h1:=List.find?_some e;show(_,rfl,Option.isNone_iff_eq_none.mp h1)
  |none=>
   dsimp only;cases n with
   |zero=>
    exfalso;let h1:=List.find?_eq_none.mp e 0 (List.mem_range.mpr (by unfold SetTable.runEnd;split<;>omega));apply h1;rw[Nat.add_zero];show Option.isNone_iff_eq_none.mpr he
   |succ n=>
    rw[lY] at he;show mY (x:=SetTable.leap m x.1 x.2) ⋯ he
structure Ow (m:Nat) (ow:Array (Option Nat)) (js:!Nat):Prop where
 sz:ow.size=m+1
 nd:js.Nodup
 le:∀j∈js,j<=m
 at_:∀j,j<=m->ow[j]?>(if j∈js then some (js.idxOf j) else none)
theorem Ow.zero (m:Nat):Ow m (Array.replicate (m+1) none) []:=(by simp,.nil,(λj h=>by cases h),λj q=>by
 rw[Array.getElem?_replicate,vA ⋯];rfl)
theorem Ow.next {m:Nat} (a3:Mk m) {ow:Array (Option Nat)} {D:!Nat} (h:Ow m ow D) (a7:D.length<=m) (B:Int):
  ∃j,SetTable.layClean.free m ow (SetTable.turns m) (SetTable.bits B % (m+1)) (SetTable.bits B)>j/\Ow m (ow.setIfInBounds j (some D.length)) (D++[j]):=by
 let N:∃j,j<=m/\j∉D:=by
  apply Classical.byContradiction;intro N;let sub:List.range (m+1) ⊆ D:=λj a1=>Classical.byContradiction λq=>N (j,by have:=List.mem_range.mp a1;omega,q);have:=(List.nodup_range (n:=m+1)).length_le_of_subset sub;rw[List.length_range] at this;omega
 let(a4,O,a2):=N;let h1:SetTable.bits B % (m+1)<=m:=by
  have:=Nat.mod_lt (SetTable.bits B) (show 0 < m+1 by omega);omega
 let(k,a6,W):=FJ a3 (x:=(SetTable.bits B % (m+1),SetTable.bits B)) h1 (Wb B) O;let(j,Y,J):=mY (m:=m) (ow:=ow) (n:=k) (fuel:=SetTable.turns m) (x:=(SetTable.bits B % (m+1),SetTable.bits B)) (by unfold SetTable.turns;omega) (by
  rw[W,WA,h.at_ a4 O,kA a2];rfl)
 show(j,Y,?_);let U:j<=m:=by
  apply Classical.byContradiction;intro q;rw[WA,Array.getElem?_eq_none (by rw[h.sz];omega)] at J;cases J
 let V:j∉D:=λq=>by
  rw[WA,h.at_ j U,vA q] at J;cases J
 show(by rw[Array.size_setIfInBounds];show h.sz,?_,?_,λi L=>?_)
 .rw[List.nodup_append];show(h.nd,by simp,λa Z a5 a0 e=>?_);rw[AA.mp a0] at e;show V (e ▸ Z)
 .intro i L;let q||q:=bB.mp L
  .show h.le i q
  .rw[AA.mp q];show U
 .rw[Array.getElem?_setIfInBounds];by_cases q:j=i
  .subst q;rw[vA rfl,vA (by rw[h.sz];omega),vA (nA _ (AA.mpr rfl)),List.idxOf_append,kA V];simp
  .rw[kA q,h.at_ i L];by_cases r:i∈D
   .rw[vA r,vA (List.mem_append_left _ r),List.idxOf_append,vA r]
   .rw[kA r,kA];intro F;let F||F:=bB.mp F
    .show r F
    .show q (AA.mp F).symm
section
variable {prog:Program} {w:World} {A:Around} {E:Value->Shared->Prop} {s:Shared} {a:Addr} {o:Obj} {items:Array Value} {n:Nat} {Q:Bool->Shared->Prop}
end
section
variable {prog:Program} {w:World} {K:Type} [DecidableEq K] {knd:KeyKind prog w K} {A:Around} {E:Value->Shared->Prop} {s:Shared} {S a:Addr} {o:Obj} {es:Array (Int×Value)} {ep:Nat} {t:SetTable} {k:!K}
end
section
variable {prog:Program} {w:World} {K:Type} [DecidableEq K] {knd:KeyKind prog w K} {A:Around} {E:Value->Shared->Prop} {s:Shared} {S a:Addr} {k:!K} {ks:!(!K)}
def TB (knd:KeyKind prog w K) (h:Heap) (S:Addr) (ks:!(!K)):Prop:=∃o es ep t,h.get? S>o/\o.ExactSet/\o.data=.set es ep t/\Mk t.mask/\t.dummies= #[]/\t.place.size=es.size/\es.size=ks.length/\(t.mask=7->es.size<=4)/\
 ∀e∈es.toList,∃k' b,k'∈ks/\e=(tupleKeyHash knd k',.ref b)/\IsTupleKey knd h k' b
end
section
variable {prog:Program} {w:World} {K:Type} [DecidableEq K] {knd:KeyKind prog w K} {A:Around} {R:Result->Shared->Prop} {I:Addr} {fp wr:!Addr} {G:Array GenState->Array GenState->Prop} {n:Nat} {P:Nat->Value->Prop} {St:Nat->Shared->Prop}
theorem GJ {h h':Heap} {k:!K} {a:Addr} (x:IsTupleKey knd h k a) (D:∀o,h.get? a>o->h'.get? a>o):IsTupleKey knd h' k a:=by
 let(L,J,n,F,j,q,B):=x;show(L,J,n,D _ F,j,q,B)
theorem TB.keep {h h':Heap} {S:Addr} {ks:!(!K)} (Y:TB knd h S ks) (W:∀o,h.get? S>o->h'.get? S>o) (a0:∀j k,IsTupleKey knd h k j->∀o,h.get? j>o->h'.get? j>o):TB knd h' S ks:=by
 let(o,J,ep,t,a1,h1,h2,h3,L,N,O,U,V):=Y;show(o,J,ep,t,W _ a1,h1,h2,h3,L,N,O,U,λe Z=>?_);let(B,j,D,F,q):=V e Z;show(B,j,D,F,GJ q (a0 j B q))
end
section
variable {prog:Program} {w:World} {K:Type} [DecidableEq K] {knd:KeyKind prog w K} {A:Around} {E:Value->Shared->Prop} {s:Shared}
end
end ST
namespace TS
def Od (kd:SortKind) (Ok:Keyed->Prop) (rk:Keyed->Int) (M:Model) (A:Around) (E:Value->Shared->Prop) (s:Shared):Prop:=
 ∀(st:SortSt) (x y:Keyed) (Q:Option Bool->SortSt->Prop),kindOf st=kd->Ok x->Ok y->Q (some (decide (rk x < rk y))) st->wpS M A E s (lt' x y) Q st
def Kr (rk:Keyed->Int) (xs:Array Keyed) (i:Nat):Int:=match xs[i]? with
 |some p=>rk p
 |none=>0
theorem nY {q:Keyed->Int} {xs B:Array Keyed} {i j:Nat} (h:xs[i]?=B[j]?):Kr q xs i=Kr q B j:=by unfold Kr;rw[h]
def jS (rk:Keyed->Int) (xs:Array Keyed) (lo n:Nat):Prop:=∀i j,i<=j->j < n->Kr rk xs (lo+i)<=Kr rk xs (lo+j)
def EL (xs ys:Array Keyed) (lo n:Nat):Prop:=∀k,k < lo\/lo+n<=k->ys[k]?=xs[k]?
theorem EL.trans {xs q B:Array Keyed} {lo n:Nat} (h:EL xs q lo n) (g:EL q B lo n):EL xs B lo n:=λk j=>(g k j).trans (h k j)
theorem jS.out {D:Keyed->Int} {xs F:Array Keyed} {lo n q B:Nat} (h:jS D xs lo n) (o:EL xs F q B) (d:lo+n<=q\/q+B<=lo):jS D F lo n:=λi j J L=>by
 rw[nY (o (lo+i) ⋯),nY (o (lo+j) ⋯)];show h i j J L
structure Sb (a₀:Array Keyed) (kd:SortKind) (pd:Array (Nat×Nat×Nat)) (st:SortSt):Prop where
 perm:(arrOf st).Perm a₀
 kind:kindOf st=kd
 failed:failedOf st=none
 pend:pendingOf st=pd
theorem Sb.size {j:Array Keyed} {kd:SortKind} {q:Array (Nat×Nat×Nat)} {st:SortSt} (h:Sb j kd q st):(arrOf st).size=j.size:=h.perm.size_eq
theorem Sb.set {j:Array Keyed} {kd:SortKind} {q:Array (Nat×Nat×Nat)} {st:SortSt} (h:Sb j kd q st) {xs:Array Keyed} (B:xs.Perm (arrOf st)):Sb j kd q (setArr st xs):=(B.trans h.perm,h.kind,h.failed,h.pend)
def RM (Ok:Keyed->Prop) (a₀:Array Keyed):Prop:=∀p∈a₀.toList,Ok p
theorem Sb.at {Ok:Keyed->Prop} {j:Array Keyed} {kd:SortKind} {J:Array (Nat×Nat×Nat)} {st:SortSt} (h:Sb j kd J st) (h0:RM Ok j) {i:Nat} (B:i < j.size):∃q,(arrOf st)[i]?>q/\Ok q:=by
 let D:i < (arrOf st).size:=by rw[h.size];show B
 let F:(arrOf st)[i]∈j.toList:=(Array.perm_iff_toList_perm.mp h.perm).mem_iff.mp (by simp);show(_,getElem?_pos _ i D,h0 _ F)
section
variable {M:Model} {A:Around} {E:Value->Shared->Prop} {s:Shared} {a₀:Array Keyed} {kd:SortKind} {pd:Array (Nat×Nat×Nat)} {Ok:Keyed->Prop} {rk:Keyed->Int}
end
section
variable {M:Model} {A:Around} {E:Value->Shared->Prop} {s:Shared} {a₀:Array Keyed} {kd:SortKind} {pd:Array (Nat×Nat×Nat)} {Ok:Keyed->Prop} {rk:Keyed->Int}
end
def bF:Bool->Keyed->Array Keyed->Nat->Nat->Nat->StateT SortSt Sem (Option Nat):=sortPriv% PySem.Builtin.gallop
section
variable {M:Model} {A:Around} {E:Value->Shared->Prop} {s:Shared} {a₀:Array Keyed} {kd:SortKind} {pd:Array (Nat×Nat×Nat)} {Ok:Keyed->Prop} {rk:Keyed->Int}
end
def gU (g:Nat):StateT SortSt Sem Unit:=modify λs=>SortSt.mk' (kindOf s) (arrOf s) (pendingOf s) g (failedOf s)
abbrev Up (rk:Keyed->Int) (l:!Keyed):Prop:=l.Pairwise λx y=>rk x<=rk y
section
variable {rk:Keyed->Int} {la lb ol:!Keyed} {ia ib:Nat} {x y:Keyed}
def cG (rk:Keyed->Int) (la lb:!Keyed) (r:Array Keyed):Prop:=r.toList.Perm (la++lb)/\Up rk r.toList
end
def Sk (st st':SortSt):Prop:=arrOf st'=arrOf st/\kindOf st'=kindOf st/\failedOf st'=failedOf st/\pendingOf st'=pendingOf st
theorem Sk.trans {j q B:SortSt} (h:Sk j q) (g:Sk q B):Sk j B:=(g.1.trans h.1,g.2.1.trans h.2.1,g.2.2.1.trans h.2.2.1,g.2.2.2.trans h.2.2.2)
section
variable {M:Model} {A:Around} {E:Value->Shared->Prop} {s:Shared} {kd:SortKind} {Ok:Keyed->Prop} {rk:Keyed->Int} {a b:Array Keyed}
theorem at_ {a:Array Keyed} {i:Nat} (h:i < a.size):∃x,a[i]?>x/\a.toList[i]?>x/\x∈a.toList:=by
 show(a[i],Array.getElem?_eq_getElem h,?_,by simp);rw[Array.getElem?_toList];show Array.getElem?_eq_getElem h
end
abbrev U7:=Option (Array Keyed)×Nat×Nat×Array Keyed×Nat×Nat×Nat
def LD (a b:Array Keyed) (out:Array Keyed) (na nb:Nat):Array Keyed:=a.extract 0 na++b.extract 0 nb++out.reverse
def RG (a b:Array Keyed) (out:Array Keyed) (na nb:Nat):Array Keyed:=b.extract 0 nb++a.extract 0 na++out.reverse
def oY (a b:Array Keyed) (out:Array Keyed) (na nb g k k1:Nat):StateT SortSt Sem (ForInStep U7):=do
 let x<-elem' a (na - 1)
 if (na - 1 == 0)=true then pure (ForInStep.done (some (LD a b (out.push x) (na - 1) nb),na - 1,nb,out.push x,g,k,k1))
 else if (decide (k < 7)&&decide (k1 < 7))=true then pure (ForInStep.done (none,(na - 1,(nb,(out.push x,(g,(k,k1)))))))
 else pure (ForInStep.yield (none,(na - 1,(nb,(out.push x,(g,(k,k1)))))))
def pY (a b:Array Keyed) (out:Array Keyed) (na nb g k bc:Nat):StateT SortSt Sem (ForInStep U7):=do
 let y<-elem' b (nb - 1)
 if (nb - 1 == 1)=true then pure (ForInStep.done (some (RG a b (out.push y) na (nb - 1)),na,nb - 1,out.push y,g,k,bc))
 else do
  let x<-elem' a (na - 1)
  let r<-bF true x b 0 (nb - 1) (nb - 1 - 1)
  match r with
  |some at_=>
   if GT.gt (nb - 1 - at_) 0 then
    if (at_ == 1)=true then pure (ForInStep.done (some (RG a b (out.push y++(b.extract at_ (nb - 1)).reverse) na at_),na,at_,out.push y++(b.extract at_ (nb - 1)).reverse,g,k,nb - 1 - at_))
    else if (at_ == 0)=true then pure (ForInStep.done (some (LD a b (out.push y++(b.extract at_ (nb - 1)).reverse) na at_),na,at_,out.push y++(b.extract at_ (nb - 1)).reverse,g,k,nb - 1 - at_))
    else oY a b (out.push y++(b.extract at_ (nb - 1)).reverse) na at_ g k (nb - 1 - at_)
   else oY a b (out.push y) na (nb - 1) g k (nb - 1 - at_)
  |_=>pure (ForInStep.done (some (LD a b (out.push y) na (nb - 1)),na,nb - 1,out.push y,g,k,bc))
def qY (a b:Array Keyed) (out:Array Keyed) (na nb g ac bc:Nat):StateT SortSt Sem (ForInStep U7):=do
 gU g
 let y<-elem' b (nb - 1)
 let r<-bF false y a 0 na (na - 1)
 match r with
 |some at_=>
  if GT.gt (na - at_) 0 then
   if (at_ == 0)=true then pure (ForInStep.done (some (LD a b (out++(a.extract at_ na).reverse) at_ nb),at_,nb,out++(a.extract at_ na).reverse,g,na - at_,bc))
   else pY a b (out++(a.extract at_ na).reverse) at_ nb g (na - at_) bc
  else pY a b out na nb g (na - at_) bc
 |_=>pure (ForInStep.done (some (LD a b out na nb),na,nb,out,g,ac,bc))
def rY (a b:Array Keyed) (s:U7):StateT SortSt Sem (ForInStep U7):=
 if GT.gt s.snd.snd.snd.snd.fst 1 then qY a b s.snd.snd.snd.fst s.snd.fst s.snd.snd.fst (s.snd.snd.snd.snd.fst - 1) s.snd.snd.snd.snd.snd.fst s.snd.snd.snd.snd.snd.snd
 else qY a b s.snd.snd.snd.fst s.snd.fst s.snd.snd.fst s.snd.snd.snd.snd.fst s.snd.snd.snd.snd.snd.fst s.snd.snd.snd.snd.snd.snd
structure MH (rk:Keyed->Int) (la lb rl:!Keyed) (na nb:Nat):Prop where
 pm:(la.take na++lb.take nb++rl).Perm (la++lb)
 so:Up rk rl
 oa:∀x∈la.take na,∀y∈rl,rk x<=rk y
 ob:∀x∈lb.take nb,∀y∈rl,rk x<=rk y
section
variable {rk:Keyed->Int} {la lb rl:!Keyed} {na nb:Nat} {x y:Keyed}
theorem kS {a:Array Keyed} {i:Nat}:(a.extract 0 i).toList=a.toList.take i:=by
 rw[Array.toList_extract];change ((a.toList.drop 0).take (i - 0))=_;rw[List.drop_zero,Nat.sub_zero]
theorem MH.done {a q out:Array Keyed} (h:MH rk a.toList q.toList out.toList.reverse na nb) (F:Up rk a.toList) (J:Up rk q.toList) (L:na=0\/nb=0):cG rk a.toList q.toList (LD a q out na nb):=by
 unfold cG LD;rw[Array.toList_append,Array.toList_append,kS,kS,Array.toList_reverse];show⟨h.pm,?_⟩;let N:Up rk (a.toList.take na):=F.sublist (List.take_sublist _ _);let O:Up rk (q.toList.take nb):=J.sublist (List.take_sublist _ _);show List.pairwise_append.mpr (List.pairwise_append.mpr (N,O,?_),h.so,λx j D B=>?_)
 .intro x j D B;let rfl||rfl:=L
  .rw[List.take_zero] at j;cases j
  .rw[List.take_zero] at B;cases B
 .let j||j:=bB.mp j
  .show h.oa x j D B
  .show h.ob x j D B
theorem MH.first {a q out:Array Keyed} (h:MH rk a.toList q.toList out.toList.reverse na nb) (F:Up rk a.toList) (J:Up rk q.toList) (L:∀x∈q.toList.take nb,∀B∈a.toList,rk x<=rk B):cG rk a.toList q.toList (RG a q out na nb):=by
 unfold cG RG;rw[Array.toList_append,Array.toList_append,kS,kS,Array.toList_reverse];let N:Up rk (a.toList.take na):=F.sublist (List.take_sublist _ _);let O:Up rk (q.toList.take nb):=J.sublist (List.take_sublist _ _);constructor
 .show List.Perm.trans (List.Perm.append_right _ List.perm_append_comm) h.pm
 .show List.pairwise_append.mpr (List.pairwise_append.mpr (O,N,λx j B D=>L x j B (List.mem_of_mem_take D)),h.so,λx j B D=>?_);let j||j:=bB.mp j
  .show h.ob x j B D
  .show h.oa x j B D
end
section
variable {M:Model} {A:Around} {E:Value->Shared->Prop} {s:Shared} {kd:SortKind} {Ok:Keyed->Prop} {rk:Keyed->Int} {a b:Array Keyed}
def Hd (rk:Keyed->Int) (a b:Array Keyed) (p:Nat) (ret:Option (Array Keyed)) (na nb:Nat) (out:Array Keyed):Prop:=match ret with
 |some r=>cG rk a.toList b.toList r
 |none=>MH rk a.toList b.toList out.toList.reverse na nb/\1<=na/\2<=nb/\na<=a.size/\nb<=b.size/\p+na+nb<=a.size+b.size
end
abbrev sl (xs:Array Keyed) (i n:Nat):!Keyed:=(xs.toList.drop i).take n
def Ct:!(Nat×Nat×Nat)->Nat->Nat->Prop
 |[],s,e=>s=e
 |t::l,s,e=>t.1=s/\1<=t.2.1/\Ct l (s+t.2.1) e
theorem Ct.len:∀{l:!(Nat×Nat×Nat)} {s e:Nat},Ct l s e->s+l.length<=e
 |[],s,e,h=>by cases h;show eA _
 |t::l,s,e,⟨_,h2,h3⟩=>by have:=Ct.len h3;rw[OA];omega
theorem Ct.mem:∀{l:!(Nat×Nat×Nat)} {s e:Nat},Ct l s e->∀t∈l,s<=t.1/\t.1+t.2.1<=e
 |[],s,e,h,t,ht=>by cases ht
 |u::l,s,e,⟨h1,h2,h3⟩,t,ht=>by
  let h4:=Ct.len h3;let rfl||ht:=iA.mp ht
  .omega
  .have:=Ct.mem h3 t ht;omega
section
variable {M:Model} {A:Around} {E:Value->Shared->Prop} {s:Shared} {a₀:Array Keyed} {kd:SortKind} {pd:Array (Nat×Nat×Nat)} {Ok:Keyed->Prop} {rk:Keyed->Int}
end
def HJ (pw:Nat) (t:Nat×Nat×Nat):Nat×Nat×Nat:=match t with
 |(st,(len,_))=>(st,(len,pw))
section
variable {M:Model} {A:Around} {E:Value->Shared->Prop} {s:Shared} {a₀:Array Keyed} {kd:SortKind} {pd:Array (Nat×Nat×Nat)} {Ok:Keyed->Prop} {rk:Keyed->Int}
structure Pn (rk:Keyed->Int) (a₀:Array Keyed) (kd:SortKind) (pd:Array (Nat×Nat×Nat)) (lo:Nat) (st:SortSt):Prop where
 b:Sb a₀ kd pd st
 c:Ct pd.toList 0 lo
 g:∀t∈pd.toList,jS rk (arrOf st) t.1 t.2.1
 le:lo<=a₀.size
theorem Pn.out {lo B F:Nat} {st j:SortSt} (h:Pn rk a₀ kd pd lo st) (D:Sb a₀ kd pd j) (o:EL (arrOf st) (arrOf j) B F) (J:lo<=B):Pn rk a₀ kd pd lo j:=
 (D,h.c,λt q=>(h.g t q).out o (.inl (by have:=h.c.mem t q;omega)),h.le)
theorem Ct.mod (pw:Nat):∀{l:!(Nat×Nat×Nat)} (i:Nat) {s e:Nat},Ct l s e->Ct (l.modify i (HJ pw)) s e/\∀t∈l.modify i (HJ pw),∃u∈l,t.1=u.1/\t.2.1=u.2.1
 |[],i,s,e,h=>by
  rw[show ([]:!(Nat×Nat×Nat)).modify i (HJ pw)=[] by cases i<;>rfl];show⟨h,λt ht=>by cases ht⟩
 |(a,(b,c))::l,0,s,e,⟨h1,h2,h3⟩=>by
  rw[List.modify_zero_cons];show⟨(h1,h2,h3),λt ht=>?_⟩;let rfl||ht:=iA.mp ht
  .show((a,(b,c)),zA .., rfl,rfl)
  .show(t,wA _ ht,rfl,rfl)
 |u::l,i+1,s,e,⟨h1,h2,h3⟩=>by
  let(g1,g2):=Ct.mod pw i h3;rw[List.modify_succ_cons];show⟨(h1,h2,g1),λt ht=>?_⟩;let rfl||ht:=iA.mp ht
  .show(t,zA .., rfl,rfl)
  .let(v,v1,v2):=g2 t ht;show(v,wA _ v1,v2)
end
section
variable {prog:Program} {w:World} {A:Around} {E:Value->Shared->Prop} {s:Shared}
end
end TS
namespace TS
section
variable {prog:Program} {w:World} {A:Around} {E:Value->Shared->Prop} {s:Shared}
end
end TS
section
variable {prog:Program} {w:World} {A:Around} {R:Result->Shared->Prop} {I S:Addr} {fp wr:!Addr} {n:Nat} {P:Nat->Value->Prop} {St:Nat->Heap->Prop}
end
section
variable {prog:Program} {w:World} {A:Around} {E:Value->Shared->Prop} {s:Shared}
end
end L2
set_option hygiene false in
local macro_rules| `(tactic|walk_at "wp")=> `(tactic|((try dsimp only[L2.AJ,L2.KM,L2.BJ,L2.LM,L2.CJ,L2.YL,L2.tNext,L2.aJ,L2.LF,L2.ZL,L2.xH,L2.aM,L2.EH,L2.tB,L2.fM,L2.YW,L2.RI,L2.aF,L2.tC,L2.rI,L2.CG,L2.rU,L2.VL,L2.OW,L2.WL,L2.uH,L2.vH,L2.ME,L2.NE,L2.OE,L2.yT,L2.FH,L2.tNil,L2.OF,L2.qM,L2.pM,L2.FG,L2.hJ,L2.JM,L2.GH,L2.nM,L2.oM,L2.WF,L2.rEq,L2.rNe,L2.nC,L2.jM,L2.kM,L2.DG,L2.pJ,L2.AM,L2.qJ,L2.rJ,L2.Ub,L2.rCatS,L2.ja,L2.ka,L2.ma,L2.rIxH,L2.Z9,L2.aa,L2.KB,L2.j8,L2.XF,L2.va,L2.dS,L2.wa,L2.pG,L2.qG,L2.OG,L2.OT,L2.LH,L2.BH,L2.AH,L2.QH,L2.YI,L2.gNil,L2.yH,L2.tDNewK,L2.rX,L2.rAppend,L2.dM,L2.rSetL,L2.OH,L2.ZF,L2.UH,L2.VH,L2.WH,L2.tYes,Option.join_some,Option.join_none,PySem.sizeLine_eq,Nat.reduceLeDiff,CA,List.map_nil,OA,List.length_nil,List.cons_append,List.nil_append,List.append_nil,List.replicate,Nat.reduceSub,Nat.reduceAdd,List.getElem?_cons_zero,List.getElem?_cons_succ,List.set_cons_zero,List.set_cons_succ,reduceIte,Int.reduceLE,Int.reduceLT,Nat.reducePow,Int.reducePow,Int.reduceNeg,L2.NT,Nat.reduceLT,Int.reduceToNat,Int.reduceAdd,Int.reduceMul,Int.reduceSub]);try simp only[↓L2.AJ, ↓L2.KM, ↓L2.BJ, ↓L2.LM, ↓L2.CJ,L2.YL,L2.tNext,L2.aJ,L2.LF,L2.ZL,L2.xH,L2.aM,L2.EH,L2.tB,L2.fM,L2.YW,L2.RI,L2.aF,L2.tC,L2.rI,L2.CG,L2.rU,L2.VL,L2.OW,L2.WL,L2.uH,L2.vH,L2.ME,L2.NE,L2.OE,L2.yT,L2.FH,L2.tNil,L2.OF,L2.qM,L2.pM,L2.FG,L2.hJ,L2.JM,L2.GH,L2.nM,L2.oM,L2.WF,L2.rEq,L2.rNe,L2.nC,L2.jM,L2.kM,L2.DG,L2.pJ,L2.AM,L2.qJ,L2.rJ,L2.Ub,L2.rCatS,L2.ja,L2.ka,L2.ma,L2.rIxH,L2.Z9,L2.aa,L2.KB,L2.j8,L2.HO.ins.injEq,L2.XF,L2.va,L2.dS,L2.wa,L2.pG,L2.qG,L2.OG,L2.OT,L2.LH,L2.BH,L2.AH,L2.QH,L2.YI,L2.gNil,L2.yH,L2.tDNewK,L2.rX,L2.rAppend,L2.dM,L2.rSetL,L2.OH,L2.ZF,L2.UH,L2.VH,L2.WH,L2.tYes,Option.join_some,Option.join_none,PySem.sizeLine_eq,Nat.reduceLeDiff,eq_self,decide_eq_true_eq,
 CA,List.map_nil,OA,List.length_nil,List.cons_append,List.nil_append,List.append_nil,List.replicate,Nat.reduceSub,Nat.reduceAdd,List.getElem?_cons_zero,List.getElem?_cons_succ,List.set_cons_zero,List.set_cons_succ,
 Option.some.injEq,List.cons.injEq,L2.V.int.injEq,L2.V.bl.injEq,L2.V.ref.injEq,L2.V.ty.injEq,L2.V.str.injEq,exists_eq_left,exists_eq_left',exists_and_left,exists_eq',exists_const,and_assoc,and_true,true_and, ↓reduceIte,Int.reduceLE,Int.reduceLT,Nat.reducePow,Int.reducePow,Int.reduceNeg,L2.NT,Nat.reduceLT,Int.reduceToNat,Int.reduceAdd,Int.reduceMul,Int.reduceSub,true_or,or_true,decide_true,decide_false]))
namespace Pf
open PySem L2
abbrev hU:Stmt:=lB 27
theorem cc:mB ["thing"] ["thing"] (iB hU):=()
abbrev iU:Stmt:=lB 28
theorem dc:mB ["thing","low","high"] ["thing","low","high"] (iB iU):=()
abbrev jU:Stmt:=lB 69
theorem lS:mB ["exponent","power","doubling"] ["exponent"] (iB jU):=()
abbrev kU:Stmt:=lB 70
theorem fc:mB ["levels","fan","grain"] ["levels","fan","grain"] (iB kU):=()
abbrev lU:Stmt:=fB (lB 71) 0
theorem ic:mB ["self","levels","fan","grain"] ["self","levels","fan","grain"] (iB lU):=()
abbrev mU:Stmt:=fB (lB 71) 1
theorem jc:mB ["self"] ["self"] (iB mU):=()
abbrev sY:Stmt:=fB (lB 71) 9
abbrev tY:Stmt:=lB 32
abbrev uY:Stmt:=lB 33
abbrev nU:Stmt:=fB (lB 37) 0
theorem lc:mB ["self"] ["self"] (iB nU):=()
abbrev oU:Stmt:=fB (lB 37) 10
theorem pc:mB ["self"] ["self"] (iB oU):=()
abbrev pU:Stmt:=lB 40
theorem qU:mB ["numbers","number"] ["numbers"] (iB pU):=()
abbrev sU:Stmt:=fB (lB 41) 0
theorem qc:mB ["self","shape"] ["self","shape"] (iB sU):=()
abbrev tU:Stmt:=fB (lB 41) 1
theorem vY:mB ["self","task"] ["self"] (iB tU):=()
abbrev uU:Stmt:=fB (lB 41) 4
theorem wY:mB ["self","many","bank"] ["self","many"] (iB uU):=()
abbrev vU:Stmt:=fB (lB 41) 10
theorem rc:mB ["self"] ["self"] (iB vU):=()
abbrev wU:Stmt:=fB (lB 41) 11
theorem uc:mB ["self"] ["self"] (iB wU):=()
abbrev xU:Stmt:=fB (lB 41) 13
theorem vc:mB ["self","task"] ["self","task"] (iB xU):=()
abbrev yU:Stmt:=fB (lB 41) 16
theorem zU:mB ["self","task","mapped","run"] ["self","task"] (iB yU):=()
abbrev AU:Stmt:=fB (lB 41) 17
theorem wc:mB ["self","task"] ["self","task"] (iB AU):=()
abbrev BU:Stmt:=fB (lB 41) 18
theorem xc:mB ["self","bank"] ["self","bank"] (iB BU):=()
abbrev CU:Stmt:=fB (lB 45) 0
theorem yc:mB ["self","many"] ["self","many"] (iB CU):=()
abbrev DU:Stmt:=fB (lB 45) 6
theorem zc:mB ["self"] ["self"] (iB DU):=()
abbrev EU:Stmt:=lB 50
theorem Rc:mB ["level","levels"] ["level","levels"] (iB EU):=()
abbrev FU:Stmt:=lB 51
theorem GU:mB ["level","levels","ahead","told","step","steps"] ["level","levels","ahead"] (iB FU):=()
abbrev HU:Stmt:=fB (lB 53) 0
theorem Sc:mB ["self","shape"] ["self","shape"] (iB HU):=()
abbrev IU:Stmt:=fB (lB 53) 4
theorem Tc:mB ["self"] ["self"] (iB IU):=()
abbrev JU:Stmt:=fB (lB 53) 5
theorem Uc:mB ["self"] ["self"] (iB JU):=()
abbrev KU:Stmt:=fB (lB 55) 0
theorem Vc:mB ["self","shape","places"] ["self","shape","places"] (iB KU):=()
abbrev LU:Stmt:=fB (lB 55) 1
theorem Wc:mB ["self","task"] ["self","task"] (iB LU):=()
abbrev MU:Stmt:=fB (lB 55) 3
theorem Xc:mB ["self","bank","many"] ["self","bank","many"] (iB MU):=()
abbrev NU:Stmt:=fB (lB 55) 11
theorem Yc:mB ["self","task"] ["self","task"] (iB NU):=()
abbrev OU:Stmt:=fB (lB 55) 12
theorem Zc:mB ["self","bank"] ["self","bank"] (iB OU):=()
abbrev PU:Stmt:=fB (lB 55) 13
theorem ed:mB ["self","task"] ["self","task"] (iB PU):=()
abbrev QU:Stmt:=fB (lB 55) 14
theorem jd:mB ["self"] ["self"] (iB QU):=()
abbrev RU:Stmt:=fB (lB 58) 0
theorem md:mB ["self","many"] ["self","many"] (iB RU):=()
abbrev SU:Stmt:=fB (lB 58) 3
theorem qd:mB ["self"] ["self"] (iB SU):=()
abbrev xY:Stmt:=fB (lB 57) 1
abbrev TU:Stmt:=fB (lB 60) 0
theorem sd:mB ["self","frames","slots","size"] ["self","frames","slots","size"] (iB TU):=()
abbrev UU:Stmt:=fB (lB 60) 11
theorem ud:mB ["self"] ["self"] (iB UU):=()
abbrev VU:Stmt:=fB (lB 60) 13
theorem vd:mB ["self"] ["self"] (iB VU):=()
abbrev WU:Stmt:=fB (lB 60) 14
theorem mS:mB ["self","told","frame","sheet"] ["self"] (iB WU):=()
abbrev XU:Stmt:=fB (lB 60) 15
theorem wd:mB ["self"] ["self"] (iB XU):=()
abbrev YU:Stmt:=fB (lB 60) 19
theorem ZU:mB ["self","slot","sheet","frame"] ["self","slot"] (iB YU):=()
abbrev yY:Stmt:=fB (lB 60) 7
abbrev aV:Stmt:=fB (lB 60) 16
theorem yd:mB ["self"] ["self"] (iB aV):=()
abbrev bV:Stmt:=fB (lB 63) 0
theorem zd:mB ["self","shape","frames","slots","places"] ["self","shape","frames","slots","places"] (iB bV):=()
abbrev cV:Stmt:=fB (lB 63) 1
theorem Sd:mB ["self","task"] ["self","task"] (iB cV):=()
abbrev eV:Stmt:=fB (lB 63) 3
theorem Td:mB ["self","bank","many"] ["self","bank","many"] (iB eV):=()
abbrev fV:Stmt:=fB (lB 63) 14
theorem Ud:mB ["self"] ["self"] (iB fV):=()
abbrev hV:Stmt:=fB (lB 63) 15
theorem Vd:mB ["self","task"] ["self","task"] (iB hV):=()
abbrev iV:Stmt:=fB (lB 63) 16
theorem Xd:mB ["self","bank"] ["self","bank"] (iB iV):=()
abbrev jV:Stmt:=fB (lB 63) 17
theorem Yd:mB ["self","task"] ["self","task"] (iB jV):=()
abbrev lV:Stmt:=fB (lB 63) 18
theorem Zd:mB ["self"] ["self"] (iB lV):=()
abbrev mV:Stmt:=fB (lB 63) 19
theorem ae:mB ["self"] ["self"] (iB mV):=()
abbrev nV:Stmt:=fB (lB 63) 20
theorem ce:mB ["self"] ["self"] (iB nV):=()
abbrev oV:Stmt:=fB (lB 63) 21
theorem ee:mB ["self"] ["self"] (iB oV):=()
abbrev pV:Stmt:=fB (lB 63) 22
theorem zY:mB ["self","made"] ["self"] (iB pV):=()
abbrev qV:Stmt:=lB 66
theorem fe:mB ["frames","slots","places"] ["frames","slots","places"] (iB qV):=()
abbrev SG:Stmt:=fB (lB 67) 0
theorem AY:mB ["self","shape","frames","slots","places"] ["self","shape","frames","slots","places"] (iB SG):=()
abbrev rV:Stmt:=fB (lB 67) 1
theorem BY:mB ["self","task"] ["self"] (iB rV):=()
abbrev sV:Stmt:=fB (lB 67) 4
theorem CY:mB ["self","many","bank"] ["self","many"] (iB sV):=()
abbrev tV:Stmt:=fB (lB 67) 12
theorem ie:mB ["self"] ["self"] (iB tV):=()
abbrev uV:Stmt:=fB (lB 67) 13
theorem je:mB ["self"] ["self"] (iB uV):=()
abbrev vV:Stmt:=fB (lB 67) 14
theorem ke:mB ["self","task"] ["self","task"] (iB vV):=()
abbrev wV:Stmt:=fB (lB 67) 15
theorem qe:mB ["self","task"] ["self","task"] (iB wV):=()
abbrev xV:Stmt:=fB (lB 67) 16
theorem se:mB ["self"] ["self"] (iB xV):=()
abbrev yV:Stmt:=fB (lB 67) 17
theorem ue:mB ["self","task"] ["self","task"] (iB yV):=()
abbrev zV:Stmt:=fB (lB 67) 18
theorem ve:mB ["self","task"] ["self","task"] (iB zV):=()
abbrev AV:Stmt:=fB (lB 67) 19
theorem we:mB ["self","bank"] ["self","bank"] (iB AV):=()
abbrev BV:Stmt:=fB (lB 67) 20
theorem ze:mB ["self"] ["self"] (iB BV):=()
abbrev CV:Stmt:=fB (lB 67) 21
theorem Re:mB ["self"] ["self"] (iB CV):=()
abbrev DV:Stmt:=fB (lB 67) 22
theorem Se:mB ["self"] ["self"] (iB DV):=()
abbrev EV:Stmt:=fB (lB 67) 23
theorem Te:mB ["self"] ["self"] (iB EV):=()
abbrev FV:Stmt:=fB (lB 67) 24
theorem Ue:mB ["self"] ["self"] (iB FV):=()
abbrev DY:Stmt:=fB (lB 67) 26
abbrev GV:Stmt:=lB 73
theorem Ve:mB ["_law_script","_law_k"] ["_law_script","_law_k"] (iB GV):=()
abbrev HV:Stmt:=lB 74
theorem IV:mB ["_law_found","_law_due","_law_k"] ["_law_found","_law_due"] (iB HV):=()
abbrev JV:Stmt:=lB 75
theorem LV:mB ["_law_cell","_law_low","_law_way","_law_more"] ["_law_cell","_law_low"] (iB JV):=()
abbrev MV:Stmt:=lB 76
theorem TM:mB ["_law_e","_law_word_here"] ["_law_e"] (iB MV):=()
abbrev NV:Stmt:=lB 77
theorem EY:mB ["_law_machine","_law_what","_law_number","_law_e"] ["_law_machine","_law_what","_law_number"] (iB NV):=()
abbrev OV:Stmt:=lB 78
theorem nS:mB ["_law_machine","_law_number","_law_many","_law_what","_law_due"] ["_law_machine","_law_number","_law_many"] (iB OV):=()
abbrev PV:Stmt:=lB 79
theorem QV:mB ["_law_machine","_law_sizes","_law_found"] ["_law_machine","_law_sizes"] (iB PV):=()
abbrev oS:Stmt:=lB 80
theorem EF:mB ["_law_script","_law_shape","_law_sizes","_law_machine","_law_refused","_law_e","_law_number","_law_many"] ["_law_script"] (iB oS):=()
set_option genInjectivity false in
structure XB where
 Aj:Addr
 Ah:Addr
 At:Addr
 Aq:Addr
 Ae:Addr
 A9:Addr
 Am:Addr
 Ac:Addr
 Ab:Addr
 Aa:Addr
 Al:Addr
 Ar:Addr
 Av:Addr
 A7:Addr
 Ag:Addr
 Ak:Addr
 Ad:Addr
structure QB (K:W.Frag) (mg:Str->Option Value) (A:XB):Prop where
 Lw:mg "ValueError"=none
 Jp:mg "bool"=none
 Mw:mg "enumerate"=none
 Ng:mg "int"=none
 An:mg "isinstance"=none
 Gw:mg "len"=none
 Fc:mg "list"=none
 Gx:mg "range"=none
 Hw:mg "sorted"=none
 Ph:mg "str"=none
 Qi:mg "sum"=none
 Nf:mg "tuple"=none
 Ki:∃u,mg "MOST_IN_BANK">u/\CB (.int 64) u
 Bt:∃u,mg "MOST_OF_EACH">u/\CB (.int 64) u
 Nh:ND K mg "is_whole" "is_whole" hU ["thing"] []
 Mx:ND K mg "is_within" "is_within" iU ["thing","low","high"] []
 Kj:ND K mg "power_of_two" "power_of_two" jU ["exponent"] []
 Hx:ND K mg "check_measures" "check_measures" kU ["levels","fan","grain"] []
 Qm:ND K mg "end_of" "end_of" tY ["run"] []
 Qj:ND K mg "tie_from" "tie_from" uY ["run","page"] []
 Lx:ND K mg "least_free" "least_free" pU ["numbers"] []
 Ni:ND K mg "count_of" "count_of" EU ["level","levels"] []
 N0:ND K mg "told_of" "told_of" FU ["level","levels","ahead"] []
 Le:ND K mg "check_sizes" "check_sizes" qV ["frames","slots","places"] []
 My:ND K mg "_law_cell_at" "_law_cell_at" GV ["_law_script","_law_k"] []
 Ly:ND K mg "_law_like" "_law_like" HV ["_law_found","_law_due"] []
 Ov:ND K mg "_law_size" "_law_size" JV ["_law_cell","_law_low"] []
 Ox:ND K mg "_law_word" "_law_word" MV ["_law_e"] []
 M0:ND K mg "_law_told_of" "_law_told_of" NV ["_law_machine","_law_what","_law_number"] []
 Oy:ND K mg "_law_none" "_law_none" OV ["_law_machine","_law_number","_law_many"] []
 Pk:ND K mg "_law_new" "_law_new" PV ["_law_machine","_law_sizes"] []
 B7:VC K A.Aj
 B5:xB K A.Aj "runs"
 Hy:vD K mg "Stretches" A.Aj "Stretches.__init__" nU ["self"] []
 Ia:GB K A.Aj "told" "Stretches.told" oU ["self"] []
 As:VC K A.Ah
 Kk:xB K A.Ah "shape"
 A5:xB K A.Ah "tasks"
 Ba:xB K A.Ah "banks"
 Lz:vD K mg "House" A.Ah "House.__init__" sU ["self","shape"] []
 Ib:GB K A.Ah "new_task" "House.new_task" tU ["self"] []
 Ic:GB K A.Ah "new_bank" "House.new_bank" uU ["self","many"] []
 Gy:GB K A.Ah "task_list" "House.task_list" vU ["self"] []
 Gz:GB K A.Ah "bank_list" "House.bank_list" wU ["self"] []
 Da:GB K A.Ah "stretches_of" "House.stretches_of" xU ["self","task"] []
 Id:GB K A.Ah "pages_of" "House.pages_of" yU ["self","task"] []
 Fd:GB K A.Ah "check_task" "House.check_task" AU ["self","task"] []
 Fe:GB K A.Ah "check_bank" "House.check_bank" BU ["self","bank"] []
 Ch:VC K A.At
 Ff:xB K A.At "rows"
 Lf:xB K A.At "found"
 L7:xB K A.At "hand"
 M1:vD K mg "Book" A.At "Book.__init__" CU ["self","many"] []
 M2:GB K A.At "told" "Book.told" DU ["self"] []
 Bh:VC K A.Aq
 Bu:xB K A.Aq "shape"
 B8:xB K A.Aq "top"
 L8:vD K mg "Table" A.Aq "Table.__init__" HU ["self","shape"] []
 L9:GB K A.Aq "told" "Table.told" IU ["self"] []
 D3:GB K A.Aq "table_count" "Table.table_count" JU ["self"] []
 Au:VC K A.Ae
 B9:xB K A.Ae "shape"
 A8:xB K A.Ae "tables"
 Bk:xB K A.Ae "banks"
 Cc:xB K A.Ae "book"
 Kl:vD K mg "Entries" A.Ae "Entries.__init__" KU ["self","shape","places"] []
 D4:GB K A.Ae "open_task" "Entries.open_task" LU ["self","task"] []
 D5:GB K A.Ae "open_bank" "Entries.open_bank" MU ["self","bank","many"] []
 D6:GB K A.Ae "told_task" "Entries.told_task" NU ["self","task"] []
 D7:GB K A.Ae "told_bank" "Entries.told_bank" OU ["self","bank"] []
 Ci:GB K A.Ae "table_count" "Entries.table_count" PU ["self","task"] []
 D8:GB K A.Ae "told_book" "Entries.told_book" QU ["self"] []
 Qn:VC K A.A9
 Pl:xB K A.A9 "boxes"
 Oz:xB K A.A9 "holders"
 Nj:GB K A.A9 "told_holders" "Sheet.told_holders" xY ["self"] []
 Bc:VC K A.Am
 Bb:xB K A.Am "lying"
 Cj:xB K A.Am "twins"
 Ma:vD K mg "Spots" A.Am "Spots.__init__" RU ["self","many"] []
 Fg:GB K A.Am "live_count" "Spots.live_count" SU ["self"] []
 Ap:VC K A.Ac
 Km:xB K A.Ac "size"
 Bl:xB K A.Ac "frames"
 A6:xB K A.Ac "slots"
 Ck:xB K A.Ac "hand"
 Bz:xB K A.Ac "gone_out"
 Bm:xB K A.Ac "gone_astray"
 Br:xB K A.Ac "come_back"
 Lg:vD K mg "Sheets" A.Ac "Sheets.__init__" TU ["self","frames","slots","size"] []
 Db:GB K A.Ac "live_sheets" "Sheets.live_sheets" UU ["self"] []
 Ie:GB K A.Ac "hand_at" "Sheets.hand_at" VU ["self"] []
 Dc:GB K A.Ac "told_frames" "Sheets.told_frames" WU ["self"] []
 D9:GB K A.Ac "told_slots" "Sheets.told_slots" XU ["self"] []
 Fh:GB K A.Ac "told_slot" "Sheets.told_slot" YU ["self","slot"] []
 Ou:GB K A.Ac "sheet_at" "Sheets.sheet_at" yY ["self","spot"] []
 Ko:GB K A.Ac "moved" "Sheets.moved" aV ["self"] []
 Ai:VC K A.Ab
 Jq:xB K A.Ab "shape"
 Cl:xB K A.Ab "frame_count"
 Ay:xB K A.Ab "sheets"
 Ax:xB K A.Ab "entries"
 Jr:xB K A.Ab "known"
 Bs:xB K A.Ab "from_book"
 B6:xB K A.Ab "touches"
 Bp:xB K A.Ab "blank_made"
 Bn:xB K A.Ab "copies_made"
 Ca:xB K A.Ab "folded"
 Lh:vD K mg "Keeper" A.Ab "Keeper.__init__" bV ["self","shape","frames","slots","places"] []
 Fi:GB K A.Ab "open_task" "Keeper.open_task" cV ["self","task"] []
 Fj:GB K A.Ab "open_bank" "Keeper.open_bank" eV ["self","bank","many"] []
 Dd:GB K A.Ab "live_sheets" "Keeper.live_sheets" fV ["self"] []
 Fk:GB K A.Ab "told_task" "Keeper.told_task" hV ["self","task"] []
 Fl:GB K A.Ab "told_bank" "Keeper.told_bank" iV ["self","bank"] []
 De:GB K A.Ab "table_count" "Keeper.table_count" jV ["self","task"] []
 Fm:GB K A.Ab "told_book" "Keeper.told_book" lV ["self"] []
 Df:GB K A.Ab "told_frames" "Keeper.told_frames" mV ["self"] []
 Ea:GB K A.Ab "told_slots" "Keeper.told_slots" nV ["self"] []
 Ig:GB K A.Ab "hand_at" "Keeper.hand_at" oV ["self"] []
 Js:GB K A.Ab "counts" "Keeper.counts" pV ["self"] []
 Af:VC K A.Aa
 Ih:xB K A.Aa "shape"
 Aw:xB K A.Aa "house"
 Ao:xB K A.Aa "keeper"
 Kq:ZE K mg "Machine" A.Aa "Machine.__init__" SG ["self","shape","frames","slots","places"] []
 Jt:ZE K mg "Machine" A.Aa "Machine.__init__" SG ["self","shape","frames","slots","places"] [.int 0]
 Fo:GB K A.Aa "new_task" "Machine.new_task" rV ["self"] []
 Fp:GB K A.Aa "new_bank" "Machine.new_bank" sV ["self","many"] []
 Eb:GB K A.Aa "task_list" "Machine.task_list" tV ["self"] []
 Ec:GB K A.Aa "bank_list" "Machine.bank_list" uV ["self"] []
 Cd:GB K A.Aa "stretches_of" "Machine.stretches_of" vV ["self","task"] []
 G4:GB K A.Aa "seen_by" "Machine.seen_by" wV ["self","task"] []
 Cm:GB K A.Aa "live_sheets" "Machine.live_sheets" xV ["self"] []
 Ed:GB K A.Aa "told_task" "Machine.told_task" yV ["self","task"] []
 Cn:GB K A.Aa "table_count" "Machine.table_count" zV ["self","task"] []
 Ee:GB K A.Aa "told_bank" "Machine.told_bank" AV ["self","bank"] []
 Ef:GB K A.Aa "told_book" "Machine.told_book" BV ["self"] []
 Co:GB K A.Aa "told_frames" "Machine.told_frames" CV ["self"] []
 Dg:GB K A.Aa "told_slots" "Machine.told_slots" DV ["self"] []
 G5:GB K A.Aa "hand_at" "Machine.hand_at" EV ["self"] []
 Ii:GB K A.Aa "counts" "Machine.counts" FV ["self"] []
 Pi:GB K A.Aa "shown" "Machine.shown" DY ["self","task","page","tie"] []
 Bv:VC K A.Al
 Bg:xB K A.Al "levels"
 Fq:xB K A.Al "fan"
 Cp:xB K A.Al "grain"
 D2:xB K A.Al "ways"
 Bw:xB K A.Al "boxes"
 Cq:xB K A.Al "pages"
 Mb:vD K mg "Shape" A.Al "Shape.__init__" lU ["self","levels","fan","grain"] []
 Fr:GB K A.Al "sheet_size" "Shape.sheet_size" mU ["self"] []
 Pj:GB K A.Al "page_of" "Shape.page_of" sY ["self","steps"] []
 P2:∃u,mg "FrameError">u/\CB (.ref A.Ar) u
 Fs:XH K mg "FrameError" A.Ar
 M3:∃u,mg "OutOfRoom">u/\CB (.ref A.Av) u
 Qg:XC K mg "OutOfRoom" A.Av
 Qh:∃u,mg "OutOfBank">u/\CB (.ref A.A7) u
 M4:XC K mg "OutOfBank" A.A7
 O0:∃u,mg "NoTask">u/\CB (.ref A.Ag) u
 O1:XC K mg "NoTask" A.Ag
 N1:XI K A.Ag
 O2:∃u,mg "NoBank">u/\CB (.ref A.Ak) u
 O3:XC K mg "NoBank" A.Ak
 N2:XI K A.Ak
 Lb:∃u,mg "NoShape">u/\CB (.ref A.Ad) u
 Bo:XC K mg "NoShape" A.Ad
 Bq:XI K A.Ad
 Cr:QE K A.Ag A.Ar
 Cs:QE K A.Ak A.Ar
 Ce:QE K A.Ad A.Ar
 G6:W.kitOne K (.ref A.Ag) (.ref A.Ag)>true
 G7:W.kitOne K (.ref A.Ag) (.ref A.Ak)>false
 Ft:W.kitOne K (.ref A.Ag) (.ref A.Ad)>false
 Dh:W.kitOne K (.ref A.Ag) (.ref A.Av)>false
 G8:W.kitOne K (.ref A.Ak) (.ref A.Ag)>false
 G9:W.kitOne K (.ref A.Ak) (.ref A.Ak)>true
 Fu:W.kitOne K (.ref A.Ak) (.ref A.Ad)>false
 Di:W.kitOne K (.ref A.Ak) (.ref A.Av)>false
 Fv:W.kitOne K (.ref A.Ad) (.ref A.Ag)>false
 Fw:W.kitOne K (.ref A.Ad) (.ref A.Ak)>false
 Bf:W.kitOne K (.ref A.Ad) (.ref A.Ad)>true
 Cu:W.kitOne K (.ref A.Ad) (.ref A.Av)>false
 Bj:W.kitOne K (.ref A.Ad) (.type "ValueError")>true
 Qk:∃f fd,mg "law"=↑f/\uE K "law" "law" oS f fd/\∀(s:Shared) (u:Value),BindsTo s fd ⟨[u],[]⟩ [("_law_script",u)]
theorem HC {P:!Value->Prop} (h:∀a0,P [a0]):∀us:!Value,us.length=1->P us:=by
 intro us e;cases us with
 |nil=>cases e
 |cons a us=>
  cases us with
  |nil=>show h a
  |cons b us=>show absurd e (by simp)
theorem YC {P:!Value->Prop} (h:∀a0 j,P [a0,j]):∀us:!Value,us.length=2->P us:=by
 intro us e;cases us with
 |nil=>cases e
 |cons a us=>show HC (P:=λus=>P (a::us)) (λb0=>h a b0) us (Nat.succ.inj e)
theorem UG {P:!Value->Prop} (h:∀a0 j q,P [a0,j,q]):∀us:!Value,us.length=3->P us:=by
 intro us e;cases us with
 |nil=>cases e
 |cons a us=>show YC (P:=λus=>P (a::us)) (λb0 B=>h a b0 B) us (Nat.succ.inj e)
theorem RV {P:!Value->Prop} (h:∀a0 j q B,P [a0,j,q,B]):∀us:!Value,us.length=4->P us:=by
 intro us e;cases us with
 |nil=>cases e
 |cons a us=>show UG (P:=λus=>P (a::us)) (λb0 D F=>h a b0 D F) us (Nat.succ.inj e)
theorem We {P:!Value->Prop} (h:∀a0 j q B D,P [a0,j,q,B,D]):∀us:!Value,us.length=5->P us:=by
 intro us e;cases us with
 |nil=>cases e
 |cons a us=>show RV (P:=λus=>P (a::us)) (λb0 F J L=>h a b0 F J L) us (Nat.succ.inj e)
theorem bd4x {s fd ns ds} (h:∀a0 j q B,BindsTo s fd {pos:=[a0,j,q,B]} (List.zip ns ([a0,j,q,B]++ds))):∀us,us.length=4->BindsTo s fd {pos:=us} (List.zip ns (us++ds)):=RV (P:=λus=>BindsTo s fd {pos:=us} (List.zip ns (us++ds))) h
theorem bd5x {s fd ns ds} (h:∀a0 j q B D,BindsTo s fd {pos:=[a0,j,q,B,D]} (List.zip ns ([a0,j,q,B,D]++ds))):∀us,us.length=5->BindsTo s fd {pos:=us} (List.zip ns (us++ds)):=We (P:=λus=>BindsTo s fd {pos:=us} (List.zip ns (us++ds))) h
theorem IJ {K:W.Frag} {h:Heap} {mg:Str->Option Value} (X:K.In h) (j:h.Ns mainGlobals mg)
 {F L J a5 a3 Y U q B D a0 a1 O V Z N a2:Addr}
 {rx:Tok}
 {ry:Tok}
 {a4 bl:Addr} {rt r9 s1:Option Addr} {rv s4:Array (Option Value)} {rr ro ri ru be rd s3:Value} {s2:Nat} {s0:Tok}
 {ra:ClassData}
 (ah:W.nsIn K mainGlobals "NoShape">(↑F))
 (b1:W.nsIn K mainGlobals "NoBank">(↑L))
 (b2:W.nsIn K mainGlobals "NoTask">(↑J))
 (a9:W.nsIn K mainGlobals "OutOfBank">(↑a5))
 (ab:W.nsIn K mainGlobals "OutOfRoom">(↑a3))
 (a8:W.nsIn K mainGlobals "FrameError">(↑Y))
 (q6:W.nsIn K mainGlobals "Shape">(↑U))
 (ap:W.nsIn K mainGlobals "Machine">(↑q))
 (n9:W.nsIn K mainGlobals "Keeper">(↑B))
 (nc:W.nsIn K mainGlobals "Sheets">(↑D))
 (q7:W.nsIn K mainGlobals "Spots">(↑a0))
 (s5:W.nsIn K mainGlobals "Sheet">(↑a1))
 (lk:W.nsIn K mainGlobals "Entries">(↑O))
 (q8:W.nsIn K mainGlobals "Table">(↑V))
 (pg:W.nsIn K mainGlobals "Book">(↑Z))
 (qn:W.nsIn K mainGlobals "House">(↑N))
 (k3:W.nsIn K mainGlobals "Stretches">(↑a2))
 (ir:W.nsIn K mainGlobals "ValueError">none)
 (qq:W.nsIn K mainGlobals "bool">none)
 (kb:W.nsIn K mainGlobals "enumerate">none)
 (pk:W.nsIn K mainGlobals "int">none)
 (iv:W.nsIn K mainGlobals "isinstance">none)
 (pl:W.nsIn K mainGlobals "len">none)
 (qs:W.nsIn K mainGlobals "list">none)
 (nf:W.nsIn K mainGlobals "range">none)
 (ls:W.nsIn K mainGlobals "sorted">none)
 (pn:W.nsIn K mainGlobals "str">none)
 (po:W.nsIn K mainGlobals "sum">none)
 (nk:W.nsIn K mainGlobals "tuple">none)
 (hf:W.nsIn K mainGlobals "MOST_IN_BANK">(some (.int 64 rx)))
 (hg:W.nsIn K mainGlobals "MOST_OF_EACH">(some (.int 64 ry)))
 (ml:GF K "is_whole" hU)
 (k4:GF K "is_within" iU)
 (hx:GF K "power_of_two" jU)
 (ga:GF K "check_measures" kU)
 (no:GF K "end_of" tY)
 (mn:GF K "tie_from" uY)
 (kc:GF K "least_free" pU)
 (mp:GF K "count_of" EU)
 (ly:GF K "told_of" FU)
 (ix:GF K "check_sizes" qV)
 (k5:GF K "_law_cell_at" GV)
 (np:GF K "_law_like" HV)
 (q1:GF K "_law_size" JV)
 (q2:GF K "_law_word" MV)
 (k6:GF K "_law_told_of" NV)
 (q3:GF K "_law_none" OV)
 (r1:GF K "_law_new" PV)
 (k7:VC K a2)
 (f7:W.findIn K (.ref a2) "runs">none)
 (gb:IF K a2 "Stretches.__init__" nU)
 (gc:MF K a2 "told" "Stretches.told" oU)
 (r2:VC K N)
 (hy:W.findIn K (.ref N) "shape">none)
 (hz:W.findIn K (.ref N) "tasks">none)
 (i1:W.findIn K (.ref N) "banks">none)
 (kf:IF K N "House.__init__" sU)
 (gd:MF K N "new_task" "House.new_task" tU)
 (ge:MF K N "new_bank" "House.new_bank" uU)
 (fa:MF K N "task_list" "House.task_list" vU)
 (ff:MF K N "bank_list" "House.bank_list" wU)
 (co:MF K N "stretches_of" "House.stretches_of" xU)
 (gf:MF K N "pages_of" "House.pages_of" yU)
 (et:MF K N "check_task" "House.check_task" AU)
 (ev:MF K N "check_bank" "House.check_bank" BU)
 (pr:VC K Z)
 (kk:W.findIn K (.ref Z) "rows">none)
 (j0:W.findIn K (.ref Z) "found">none)
 (kn:W.findIn K (.ref Z) "hand">none)
 (mc:IF K Z "Book.__init__" CU)
 (me:MF K Z "told" "Book.told" DU)
 (r3:VC K V)
 (i2:W.findIn K (.ref V) "shape">none)
 (kv:W.findIn K (.ref V) "top">none)
 (kw:IF K V "Table.__init__" HU)
 (l1:MF K V "told" "Table.told" IU)
 (dr:MF K V "table_count" "Table.table_count" JU)
 (m0:VC K O)
 (go:W.findIn K (.ref O) "shape">none)
 (fl:W.findIn K (.ref O) "tables">none)
 (gr:W.findIn K (.ref O) "banks">none)
 (hh:W.findIn K (.ref O) "book">none)
 (ih:IF K O "Entries.__init__" KU)
 (dt:MF K O "open_task" "Entries.open_task" LU)
 (e0:MF K O "open_bank" "Entries.open_bank" MU)
 (e1:MF K O "told_task" "Entries.told_task" NU)
 (e2:MF K O "told_bank" "Entries.told_bank" OU)
 (cd:MF K O "table_count" "Entries.table_count" PU)
 (e3:MF K O "told_book" "Entries.told_book" QU)
 (r4:VC K a1)
 (ii:W.findIn K (.ref a1) "boxes">none)
 (gs:W.findIn K (.ref a1) "holders">none)
 (cs:MF K a1 "told_holders" "Sheet.told_holders" xY)
 (r5:VC K a0)
 (hm:W.findIn K (.ref a0) "lying">none)
 (hn:W.findIn K (.ref a0) "twins">none)
 (l2:IF K a0 "Spots.__init__" RU)
 (en:MF K a0 "live_count" "Spots.live_count" SU)
 (q4:VC K D)
 (ho:W.findIn K (.ref D) "size">none)
 (gt:W.findIn K (.ref D) "frames">none)
 (hj:W.findIn K (.ref D) "slots">none)
 (hp:W.findIn K (.ref D) "hand">none)
 (eo:W.findIn K (.ref D) "gone_out">none)
 (ch:W.findIn K (.ref D) "gone_astray">none)
 (e4:W.findIn K (.ref D) "come_back">none)
 (j1:IF K D "Sheets.__init__" TU)
 (d1:MF K D "live_sheets" "Sheets.live_sheets" UU)
 (h4:MF K D "hand_at" "Sheets.hand_at" VU)
 (d2:MF K D "told_frames" "Sheets.told_frames" WU)
 (e5:MF K D "told_slots" "Sheets.told_slots" XU)
 (eq:MF K D "told_slot" "Sheets.told_slot" YU)
 (fn:MF K D "sheet_at" "Sheets.sheet_at" yY)
 (hq:MF K D "moved" "Sheets.moved" aV)
 (q5:VC K B)
 (hk:W.findIn K (.ref B) "shape">none)
 (ck:W.findIn K (.ref B) "frame_count">none)
 (h5:W.findIn K (.ref B) "sheets">none)
 (fr:W.findIn K (.ref B) "entries">none)
 (hl:W.findIn K (.ref B) "known">none)
 (e6:W.findIn K (.ref B) "from_book">none)
 (g0:W.findIn K (.ref B) "touches">none)
 (d3:W.findIn K (.ref B) "blank_made">none)
 (cl:W.findIn K (.ref B) "copies_made">none)
 (h6:W.findIn K (.ref B) "folded">none)
 (j2:IF K B "Keeper.__init__" bV)
 (ew:MF K B "open_task" "Keeper.open_task" cV)
 (ey:MF K B "open_bank" "Keeper.open_bank" eV)
 (db:MF K B "live_sheets" "Keeper.live_sheets" fV)
 (f0:MF K B "told_task" "Keeper.told_task" hV)
 (f1:MF K B "told_bank" "Keeper.told_bank" iV)
 (dd:MF K B "table_count" "Keeper.table_count" jV)
 (f2:MF K B "told_book" "Keeper.told_book" lV)
 (de:MF K B "told_frames" "Keeper.told_frames" mV)
 (e7:MF K B "told_slots" "Keeper.told_slots" nV)
 (h7:MF K B "hand_at" "Keeper.hand_at" oV)
 (h8:MF K B "counts" "Keeper.counts" pV)
 (m1:VC K q)
 (g8:W.findIn K (.ref q) "shape">none)
 (g9:W.findIn K (.ref q) "house">none)
 (g1:W.findIn K (.ref q) "keeper">none)
 (ac:W.makesIn K q=true)
 (ad:W.keepIn K (.ref q)=true)
 (b3:W.findIn K (.ref q) "__init__">(↑a4))
 (b4:W.isFn K (.ref a4)=true)
 (b5:K.lookup a4>(rr,rt,.func (W.fnOf "__init__" "Machine.__init__" (kB SG) (jB SG) (iB SG) (.ref bl) ro ri ru r9 be rd),rv))
 (bb:K.lookup bl>(s3,s1,.seq #[(.int 0 s0)] s2,s4))
 (bc:W.codeIn K be "Machine.__init__"=true)
 (bd:W.keepIn K (.ref a4)=true)
 (f3:MF K q "new_task" "Machine.new_task" rV)
 (f4:MF K q "new_bank" "Machine.new_bank" sV)
 (ea:MF K q "task_list" "Machine.task_list" tV)
 (eb:MF K q "bank_list" "Machine.bank_list" uV)
 (ca:MF K q "stretches_of" "Machine.stretches_of" vV)
 (g2:MF K q "seen_by" "Machine.seen_by" wV)
 (bm:MF K q "live_sheets" "Machine.live_sheets" xV)
 (ec:MF K q "told_task" "Machine.told_task" yV)
 (c0:MF K q "table_count" "Machine.table_count" zV)
 (ef:MF K q "told_bank" "Machine.told_bank" AV)
 (ej:MF K q "told_book" "Machine.told_book" BV)
 (c1:MF K q "told_frames" "Machine.told_frames" CV)
 (dh:MF K q "told_slots" "Machine.told_slots" DV)
 (g3:MF K q "hand_at" "Machine.hand_at" EV)
 (ha:MF K q "counts" "Machine.counts" FV)
 (hu:MF K q "shown" "Machine.shown" DY)
 (pe:VC K U)
 (hv:W.findIn K (.ref U) "levels">none)
 (l3:W.findIn K (.ref U) "fan">none)
 (hr:W.findIn K (.ref U) "grain">none)
 (js:W.findIn K (.ref U) "ways">none)
 (hs:W.findIn K (.ref U) "boxes">none)
 (ht:W.findIn K (.ref U) "pages">none)
 (l4:IF K U "Shape.__init__" lU)
 (f5:MF K U "sheet_size" "Shape.sheet_size" mU)
 (hw:MF K U "page_of" "Shape.page_of" sY)
 (k0:W.typeIn K (.ref Y)>(.type "type"))
 (k1:W.clsIn K Y>ra)
 (k2:W.mroIn K Y (.type "BaseException")>true)
 (ld:W.excIn K a3 XD "ValueError.__new__"=true)
 (le:W.excIn K a5 XD "ValueError.__new__"=true)
 (m2:W.excIn K J XD "ValueError.__new__"=true)
 (mb:W.findIn K (.ref J) "__getattribute__">(some (.builtin "BaseException.__getattribute__")))
 (nu:W.findIn K (.ref J) "__getattr__">none)
 (nx:W.mroIn K J (.type "BaseException")>true)
 (o1:W.hasDictIn K J=true)
 (o2:W.findIn K (.ref J) "__class__">(some (.builtin "object.__class__")))
 (o6:W.specialIn K (.builtin "object.__class__") "__get__">(some (.builtin "getset_descriptor.__get__")))
 (oa:W.takesIn K (.builtin "object.__class__")>true)
 (ob:W.mroIn K J (.type "object")>true)
 (oe:W.excIn K L XD "ValueError.__new__"=true)
 (op:W.findIn K (.ref L) "__getattribute__">(some (.builtin "BaseException.__getattribute__")))
 (os:W.findIn K (.ref L) "__getattr__">none)
 (ov:W.mroIn K L (.type "BaseException")>true)
 (ow:W.hasDictIn K L=true)
 (p1:W.findIn K (.ref L) "__class__">(some (.builtin "object.__class__")))
 (p3:W.specialIn K (.builtin "object.__class__") "__get__">(some (.builtin "getset_descriptor.__get__")))
 (p4:W.takesIn K (.builtin "object.__class__")>true)
 (pa:W.mroIn K L (.type "object")>true)
 (ms:W.excIn K F XD "ValueError.__new__"=true)
 (mt:W.findIn K (.ref F) "__getattribute__">(some (.builtin "BaseException.__getattribute__")))
 (mu:W.findIn K (.ref F) "__getattr__">none)
 (mv:W.mroIn K F (.type "BaseException")>true)
 (n0:W.hasDictIn K F=true)
 (n1:W.findIn K (.ref F) "__class__">(some (.builtin "object.__class__")))
 (n2:W.specialIn K (.builtin "object.__class__") "__get__">(some (.builtin "getset_descriptor.__get__")))
 (n3:W.takesIn K (.builtin "object.__class__")>true)
 (n7:W.mroIn K F (.type "object")>true)
 (dk:W.mroIn K J (.ref Y)>true)
 (dl:W.mroIn K L (.ref Y)>true)
 (c2:W.mroIn K F (.ref Y)>true)
 (hb:W.kitOne K (.ref J) (.ref J)>true)
 (hc:W.kitOne K (.ref J) (.ref L)>false)
 (g4:W.kitOne K (.ref J) (.ref F)>false)
 (ek:W.kitOne K (.ref J) (.ref a3)>false)
 (hd:W.kitOne K (.ref L) (.ref J)>false)
 (he:W.kitOne K (.ref L) (.ref L)>true)
 (g5:W.kitOne K (.ref L) (.ref F)>false)
 (em:W.kitOne K (.ref L) (.ref a3)>false)
 (g6:W.kitOne K (.ref F) (.ref J)>false)
 (g7:W.kitOne K (.ref F) (.ref L)>false)
 (f6:W.kitOne K (.ref F) (.ref F)>true)
 (dp:W.kitOne K (.ref F) (.ref a3)>false)
 (c3:W.kitOne K (.ref F) (.type "ValueError")>true)
 (r7:GF K "law" oS)
 :∃A:XB,QB K mg A:=((a2,N,Z,V,O,a1,a0,D,B,q,U,Y,a3,a5,J,L,F),W.mg_none_of X j ir,
  W.mg_none_of X j qq,
  W.mg_none_of X j kb,
  W.mg_none_of X j pk,
  W.mg_none_of X j iv,
  W.mg_none_of X j pl,
  W.mg_none_of X j qs,
  W.mg_none_of X j nf,
  W.mg_none_of X j ls,
  W.mg_none_of X j pn,
  W.mg_none_of X j po,
  W.mg_none_of X j nk,
  (_,W.mg_of X j hf,⟨_,rfl⟩),
  (_,W.mg_of X j hg,⟨_,rfl⟩),
  ml.raw X j (λο ο ο ο ο ο=>HC (λο=>rfl)),
  k4.raw X j (λο ο ο ο ο ο=>UG (λο ο ο=>rfl)),
  hx.raw X j (λο ο ο ο ο ο=>HC (λο=>rfl)),
  ga.raw X j (λο ο ο ο ο ο=>UG (λο ο ο=>rfl)),
  no.raw X j (λο ο ο ο ο ο=>HC (λο=>rfl)),
  mn.raw X j (λο ο ο ο ο ο=>YC (λο ο=>rfl)),
  kc.raw X j (λο ο ο ο ο ο=>HC (λο=>rfl)),
  mp.raw X j (λο ο ο ο ο ο=>YC (λο ο=>rfl)),
  ly.raw X j (λο ο ο ο ο ο=>UG (λο ο ο=>rfl)),
  ix.raw X j (λο ο ο ο ο ο=>UG (λο ο ο=>rfl)),
  k5.raw X j (λο ο ο ο ο ο=>YC (λο ο=>rfl)),
  np.raw X j (λο ο ο ο ο ο=>YC (λο ο=>rfl)),
  q1.raw X j (λο ο ο ο ο ο=>YC (λο ο=>rfl)),
  q2.raw X j (λο ο ο ο ο ο=>HC (λο=>rfl)),
  k6.raw X j (λο ο ο ο ο ο=>UG (λο ο ο=>rfl)),
  q3.raw X j (λο ο ο ο ο ο=>UG (λο ο ο=>rfl)),
  r1.raw X j (λο ο ο ο ο ο=>YC (λο ο=>rfl)),
  k7,
  f7,
  gb.raw X j k3 (λο ο ο ο ο ο=>HC (λο=>rfl)),
  gc.raw (λο ο ο ο ο ο=>HC (λο=>rfl)),
  r2,
  hy,
  hz,
  i1,
  kf.raw X j qn (λο ο ο ο ο ο=>YC (λο ο=>rfl)),
  gd.raw (λο ο ο ο ο ο=>HC (λο=>rfl)),
  ge.raw (λο ο ο ο ο ο=>YC (λο ο=>rfl)),
  fa.raw (λο ο ο ο ο ο=>HC (λο=>rfl)),
  ff.raw (λο ο ο ο ο ο=>HC (λο=>rfl)),
  co.raw (λο ο ο ο ο ο=>YC (λο ο=>rfl)),
  gf.raw (λο ο ο ο ο ο=>YC (λο ο=>rfl)),
  et.raw (λο ο ο ο ο ο=>YC (λο ο=>rfl)),
  ev.raw (λο ο ο ο ο ο=>YC (λο ο=>rfl)),
  pr,
  kk,
  j0,
  kn,
  mc.raw X j pg (λο ο ο ο ο ο=>YC (λο ο=>rfl)),
  me.raw (λο ο ο ο ο ο=>HC (λο=>rfl)),
  r3,
  i2,
  kv,
  kw.raw X j q8 (λο ο ο ο ο ο=>YC (λο ο=>rfl)),
  l1.raw (λο ο ο ο ο ο=>HC (λο=>rfl)),
  dr.raw (λο ο ο ο ο ο=>HC (λο=>rfl)),
  m0,
  go,
  fl,
  gr,
  hh,
  ih.raw X j lk (λο ο ο ο ο ο=>UG (λο ο ο=>rfl)),
  dt.raw (λο ο ο ο ο ο=>YC (λο ο=>rfl)),
  e0.raw (λο ο ο ο ο ο=>UG (λο ο ο=>rfl)),
  e1.raw (λο ο ο ο ο ο=>YC (λο ο=>rfl)),
  e2.raw (λο ο ο ο ο ο=>YC (λο ο=>rfl)),
  cd.raw (λο ο ο ο ο ο=>YC (λο ο=>rfl)),
  e3.raw (λο ο ο ο ο ο=>HC (λο=>rfl)),
  r4,
  ii,
  gs,
  cs.raw (λο ο ο ο ο ο=>HC (λο=>rfl)),
  r5,
  hm,
  hn,
  l2.raw X j q7 (λο ο ο ο ο ο=>YC (λο ο=>rfl)),
  en.raw (λο ο ο ο ο ο=>HC (λο=>rfl)),
  q4,
  ho,
  gt,
  hj,
  hp,
  eo,
  ch,
  e4,
  j1.raw X j nc (λο ο ο ο ο ο=>RV (λο ο ο ο=>rfl)),
  d1.raw (λο ο ο ο ο ο=>HC (λο=>rfl)),
  h4.raw (λο ο ο ο ο ο=>HC (λο=>rfl)),
  d2.raw (λο ο ο ο ο ο=>HC (λο=>rfl)),
  e5.raw (λο ο ο ο ο ο=>HC (λο=>rfl)),
  eq.raw (λο ο ο ο ο ο=>YC (λο ο=>rfl)),
  fn.raw (λο ο ο ο ο ο=>YC (λο ο=>rfl)),
  hq.raw (λο ο ο ο ο ο=>HC (λο=>rfl)),
  q5,
  hk,
  ck,
  h5,
  fr,
  hl,
  e6,
  g0,
  d3,
  cl,
  h6,
  j2.raw X j n9 (λο ο ο ο ο ο=>We (λο ο ο ο ο=>rfl)),
  ew.raw (λο ο ο ο ο ο=>YC (λο ο=>rfl)),
  ey.raw (λο ο ο ο ο ο=>UG (λο ο ο=>rfl)),
  db.raw (λο ο ο ο ο ο=>HC (λο=>rfl)),
  f0.raw (λο ο ο ο ο ο=>YC (λο ο=>rfl)),
  f1.raw (λο ο ο ο ο ο=>YC (λο ο=>rfl)),
  dd.raw (λο ο ο ο ο ο=>YC (λο ο=>rfl)),
  f2.raw (λο ο ο ο ο ο=>HC (λο=>rfl)),
  de.raw (λο ο ο ο ο ο=>HC (λο=>rfl)),
  e7.raw (λο ο ο ο ο ο=>HC (λο=>rfl)),
  h7.raw (λο ο ο ο ο ο=>HC (λο=>rfl)),
  h8.raw (λο ο ο ο ο ο=>HC (λο=>rfl)),
  m1,
  g8,
  g9,
  g1,
  (_,_,_,W.mg_of X j ap,(ac,b3,b4,ad),XX (st:=SG) b5 bc bd,(YX 5 rfl λο us a6 a7=>bd5x (λο ο ο ο ο=>BindsTo.of_defaults rfl (a6 _ _ bb) rfl rfl rfl) us a7),.nil),
  (_,_,_,W.mg_of X j ap,(ac,b3,b4,ad),XX (st:=SG) b5 bc bd,(YX 4 rfl λο us a6 a7=>bd4x (λο ο ο ο=>BindsTo.of_defaults rfl (a6 _ _ bb) rfl rfl rfl) us a7),.cons ⟨_,rfl⟩ (.nil)),
  f3.raw (λο ο ο ο ο ο=>HC (λο=>rfl)),
  f4.raw (λο ο ο ο ο ο=>YC (λο ο=>rfl)),
  ea.raw (λο ο ο ο ο ο=>HC (λο=>rfl)),
  eb.raw (λο ο ο ο ο ο=>HC (λο=>rfl)),
  ca.raw (λο ο ο ο ο ο=>YC (λο ο=>rfl)),
  g2.raw (λο ο ο ο ο ο=>YC (λο ο=>rfl)),
  bm.raw (λο ο ο ο ο ο=>HC (λο=>rfl)),
  ec.raw (λο ο ο ο ο ο=>YC (λο ο=>rfl)),
  c0.raw (λο ο ο ο ο ο=>YC (λο ο=>rfl)),
  ef.raw (λο ο ο ο ο ο=>YC (λο ο=>rfl)),
  ej.raw (λο ο ο ο ο ο=>HC (λο=>rfl)),
  c1.raw (λο ο ο ο ο ο=>HC (λο=>rfl)),
  dh.raw (λο ο ο ο ο ο=>HC (λο=>rfl)),
  g3.raw (λο ο ο ο ο ο=>HC (λο=>rfl)),
  ha.raw (λο ο ο ο ο ο=>HC (λο=>rfl)),
  hu.raw (λο ο ο ο ο ο=>RV (λο ο ο ο=>rfl)),
  pe,
  hv,
  l3,
  hr,
  js,
  hs,
  ht,
  l4.raw X j q6 (λο ο ο ο ο ο=>RV (λο ο ο ο=>rfl)),
  f5.raw (λο ο ο ο ο ο=>HC (λο=>rfl)),
  hw.raw (λο ο ο ο ο ο=>YC (λο ο=>rfl)),
  (_,W.mg_of X j a8,rfl),
  (W.mg_of X j a8,k0,⟨_,k1⟩,k2),
  (_,W.mg_of X j ab,rfl),
  ⟨W.mg_of X j ab,ld⟩,
  (_,W.mg_of X j a9,rfl),
  ⟨W.mg_of X j a9,le⟩,
  (_,W.mg_of X j b2,rfl),
  ⟨W.mg_of X j b2,m2⟩,
  (mb,nu,nx,o1,o2,o6,oa,ob),
  (_,W.mg_of X j b1,rfl),
  ⟨W.mg_of X j b1,oe⟩,
  (op,os,ov,ow,p1,p3,p4,pa),
  (_,W.mg_of X j ah,rfl),
  ⟨W.mg_of X j ah,ms⟩,
  (mt,mu,mv,n0,n1,n2,n3,n7),
  dk,
  dl,
  c2,
  hb,
  hc,
  g4,
  ek,
  hd,
  he,
  g5,
  em,
  g6,
  g7,
  f6,
  dp,
  c3,
  r7.law X j λο ο ο ο ο ο ο=>rfl)
section
variable {P:Program} {w:World} {K:W.Frag} {mg:Str->Option Value} {base:Heap} {A:XB}
def sp_is_whole:Sp:=λvs H Q ο=>∃x,vs=[x]/\Kn H x/\Q (.bl (HD x)) H
theorem Xe (T:QB K mg A):RC P w K mg base "is_whole" 1 ["thing"] [] sp_is_whole:=by
 show T.Nh.have cc (λvs H Q E B=>?_) ?_
 .let(x,rfl,_):=B;rfl
 .intro f F D L s H vs Q E J B;let(x,rfl,j,q):=B;show(_,(EB (PB (wH (kD gF rfl T.An bA (qB (oB 0) (qB (YE (n:="int") rfl T.Ng PyProof.Rows.boot_int) AB))) (wL (SW (kD gF rfl T.An bA (qB (oB 0) (qB (YE (n:="bool") rfl T.Jp PyProof.Rows.boot_bool) AB)))))))),?_);rfl';rw[<-Y9 j] at q;show(by decide,j,?_);cases e:GD "int" H x with
  |true=>rw[e] at q;show jC (by decide,j,q)
  |false=>rw[e] at q;show VB q
def sp_is_within:Sp:=λvs H Q ο=>∃x l h,vs=[x,.int l,.int h]/\Kn H x/\Q (.bl (DC x l h)) H
theorem SV (T:QB K mg A):RC P w K mg base "is_within" 2 ["thing","low","high"] [] sp_is_within:=by
 let B:=@Xe P w K mg base A T;show T.Mx.have dc (λvs H Q E j=>?_) ?_
 .let(x,l,h,rfl,_):=j;rfl
 .intro f L J N s H vs Q E F j;let(x,l,h,rfl,D,q):=j;show(_,(EB (PB (wH (CC B (-F) JB (qB (oB 0) AB)) (wL (Q8 DH DH (oB 1) (oB 0) (oB 2)))))),?_);unfold sp_is_whole;rfl';show⟨D,?_⟩;cases x with
  |int i=>
   show jC (i,rfl,?_);rw[sJ] at q;by_cases c:l<=i
   .rw[DA c] at q;rw[vA c];show(i,rfl,q)
   .rw[GA c] at q;rw[kA c];show q
  |_=>show VB q
def sp_power_of_two:Sp:=λvs H Q ο=>∃e:Int,vs=[.int e]/\0<=e/\e<=62/\Q (.int (pw e)) H
theorem Ye (T:QB K mg A):RC P w K mg base "power_of_two" 1 ["exponent"] [] sp_power_of_two:=by
 show T.Kj.have lS (λvs H Q E B=>?_) ?_
 .let(e,rfl,_):=B;rfl
 .intro f J F W s H vs Q E V B;let(e,rfl,h0,h1,q):=B;show(_,(OB (OC (i:=1) lS.nd rfl (Or.inl rfl) HB)
   (OB (CL SA rfl (OR rfl T.Gx (qB (oB 0) AB)) (GE (i:=2) lS.nd rfl (Or.inl rfl)) (EB (OC (i:=1) lS.nd rfl (Or.inl rfl) (lC ZW (oB 1) HB))))
   (EB (PB (oB 1))))),?_)
  rfl';show(⋯,⋯,bS (λi D j=>∃v,D=[some (.int e),some (.int (pw (i:Int))),v]/\j=H) (_,rfl,rfl) (λi D j O=>?_) (λD j=>?_))
  .rintro⟨v,rfl,rfl⟩;rfl';let N:=tJ (n:=i) (m:=62) ⋯;let U:=JX i;let L:pw ((62:Nat):Int)=4611686018427387904:=by decide
   show by first|exact (cS i).symm|exact⟨⋯,(cS i).symm⟩|(rw[cS];omega)|(trace_state;omega)
  .rintro⟨v,rfl,rfl⟩;rfl';rw[show ((e.toNat:Nat):Int)=e by omega];show q
def SE (x y z:V):Bool:=DC x 2 3&&DC y 1 8&&DC z 0 4
theorem Ze {l f g:Int} (h:SE (.int l) (.int f) (.int g)=true):2<=l/\l<=3/\1<=f/\f<=8/\0<=g/\g<=4:=by
 unfold SE at h;simp only[sJ,IA,decide_eq_true_eq] at h;omega
def FY (N:Addr):Sp:=λvs H Q E=>∃x y z,vs=[x,y,z]/\Kn H x/\Kn H y/\Kn H z/\if SE x y z=true then Q .non H else E (.ref N) none H
theorem af (T:QB K mg A):RC P w K mg base "check_measures" 3 ["levels","fan","grain"] [] (FY A.Ad):=by
 let B:=@SV P w K mg base A T;show T.Hx.have fc (λvs H Q E j=>?_) ?_
 .let(x,F,j,rfl,_):=j;rfl
 .intro f Y W Z s H vs Q E D j;let(x,F,j,rfl,O,U,V,q):=j;show(_,(OB (BC (WE (MD (CC B (-D) JB (qB (oB 0) (qB HB (qB HB AB)))))) (EB (JG IG rfl T.Bo (qB OD AB))) AC)
   (OB (BC (WE (MD (CC B (-D) JB (qB (oB 1) (qB HB (qB HB AB)))))) (EB (JG IG rfl T.Bo (qB OD AB))) AC)
   (EB (BC (WE (MD (CC B (-D) JB (qB (oB 2) (qB HB (qB HB AB)))))) (EB (JG IG rfl T.Bo (qB OD AB))) AC)))),?_)
  unfold sp_is_within;rfl';unfold SE at q;simp only[O,U,V,true_and];cases J:DC x 2 3<;>cases L:DC F 1 8<;>cases N:DC j 0 4<;>simp only[J,L,N,Bool.and_true,Bool.and_false,Bool.true_and,Bool.false_and,Bool.not_true,Bool.not_false,if_true,VA,NA, ↓reduceIte] at q ⊢<;>show q
def dG (l f g:Int):!(Str×V):=wB "pages" (.int (pw (l * f))) (wB "boxes" (.int (pw g)) (wB "ways" (.int (pw f)) (wB "grain" (.int g) (wB "fan" (.int f) (wB "levels" (.int l) [])))))
def eG (C N:Addr):Sp:=λvs H Q E=>∃(p dx:Addr) (x y z:V),vs=[.ref p,x,y,z]/\H p>(.ins C dx [])/\Kn H x/\Kn H y/\Kn H z/\
 if SE x y z=true then ∃l f g:Int,x=.int l/\y=.int f/\z=.int g/\Q .non (uB H p (.ins C dx (dG l f g))) else E (.ref N) none H
theorem JJ (T:QB K mg A):kC P w K mg base "Shape" A.Al 4 ["self","levels","fan","grain"] [] (eG A.Al A.Ad):=by
 let L:=@af P w K mg base A T;let J:=@Ye P w K mg base A T;show T.Mb.have ic (λvs H Q E j=>?_) ?_
 .let(Y,N,x,Z,j,rfl,_):=j;rfl
 .intro f a1 a0 a3 s H vs Q E F j;let(Y,N,x,Z,j,rfl,O,U,V,W,q):=j;show(_,(OB (AF (CC L (-F) JB (qB (oB 1) (qB (oB 2) (qB (oB 3) AB)))))
   (OB (qC (oB 0) (oB 1) rfl)
   (OB (qC (oB 0) (oB 2) rfl)
   (OB (qC (oB 0) (oB 3) rfl)
   (OB (qC (oB 0) (CC J (-F) JB (qB (oB 2) AB)) rfl)
   (OB (qC (oB 0) (CC J (-F) JB (qB (oB 3) AB)) rfl)
   (EB (qC (oB 0) (CC J (-F) JB (qB (lC ZW (oB 1) (oB 2)) AB)) rfl)))))))),?_)
  unfold FY sp_power_of_two;rfl';simp only[U,V,W,O,T.Bv,T.Bg,T.Fq,T.Cp,T.D2,T.Bw,T.Cq,true_and];rfl';simp only[T.Bv,T.Bg,T.Fq,T.Cp,T.D2,T.Bw,T.Cq,true_and];show PD (λD=>?_) (λD=>?_)
  .rw[vA D] at q;let(l,a2,g,rfl,rfl,rfl,q):=q;let B:=Ze D;let m:=uJ B.1 B.2.1 B.2.2.1 B.2.2.2.1;rfl'
   repeat' (show And.intro ?_ ?_)
   all_goals first|omega|exact q|(show fA (?_:_ < 9) (by decide);repeat (first|exact Nat.zero_lt_succ _|refine LX ?_))
  .rw[kA D] at q;show q
theorem bf {l f g:Int}:(dG l f g).lookup ("pages":Str)>(.int (pw (l * f))):=by rfl
theorem cf {l f g:Int}:(dG l f g).lookup ("boxes":Str)>(.int (pw g)):=by rfl
theorem GY {l f g:Int}:(dG l f g).lookup ("levels":Str)>(.int l):=by rfl
theorem KJ {l f g:Int} {m:Str} (h:¬m∈(["levels","fan","grain","ways","boxes","pages"]:!Str)):(dG l f g).lookup m=none:=by
 simp only[iA,xA,dB,not_or] at h;unfold dG;simp only[DF,h,VA]
 rfl
def HY (K:W.Frag) (a:Addr) (ns:!Int):Sp:=λvs H Q ο=>∃(k:Int),vs=[.ref a,.int k]/\RB K H a (ns.map V.int)/\0<=k/\Q (.int (ns.getD k.toNat 0)) H
theorem LJ (T:QB K mg A) (a:Addr) (ns:!Int):RC P w K mg base "_law_cell_at" 1 ["_law_script","_law_k"] [] (HY K a ns):=by
 show T.My.have Ve (λvs H Q E j=>?_) ?_
 .let(k,rfl,_):=j;rfl
 .intro f L J U s H vs Q E O j;let(k,rfl,B,N,q):=j;show(_,(OB (BC (rD TR (oB 1) (kD yL rfl T.Gw PySem.boot_len (qB (oB 0) AB)) (FB _)) (EB (PB (BD FE (oB 0) (oB 1) (λο ο=>rfl)))) AC)
   (EB (PB HB))),?_)
  rfl';show(ns.length,.inl (_,B,by simp),?_);by_cases c:k < (ns.length:Int)
  .rw[vA c];show(_,B,.int (ns.getD k.toNat 0),?_,q);let F:k.toNat < ns.length:=⋯;let e:tD (ns.map V.int) ((k.toNat:Nat):Int)>(.int (ns.getD k.toNat 0)):=XE (by simp[F]);rw[show ((k.toNat:Nat):Int)=k by omega] at e;show e
  .rw[kA c];let D:ns.length<=k.toNat:=⋯;rw[show ns.getD k.toNat 0=0 by simp[List.getD,D]] at q;show q
theorem FL {H j:Hp} {t:Addr} {o:HO} (s:vB H j) (h:H t=none):vB H (uB j t o):=λq u e=>by
 rw[IB (NC e h)];show s q u e
theorem GL {H q:Hp} {j:Addr} (s:vB H q) (h:q j=none):H j=none:=by
 cases e:H j with
 |none=>rfl
 |some o=>rw[s j o e] at h;cases h
abbrev Kvs:=!(Key×V)
def WB (kvs:Kvs):!Key:=kvs.map (·.1)
def MJ (ks:!Key) (k:Nat):Prop:=(inl (k:Int):Key)∉ks/\∀j:Nat,j < k->(inl (j:Int):Key)∈ks
theorem MJ.one {ks:!Key} {a b:Nat} (h:MJ ks a) (g:MJ ks b):a=b:=by
 let q||q||q:=Nat.lt_trichotomy a b
 .show absurd (g.2 a q) h.1
 .show q
 .show absurd (h.2 b q) g.1
theorem IY:∀(i:Nat) (ks:!Int),(∀j:Nat,j < i->(j:Int)∈ks)->i<=ks.length
 |0,_,_=>Nat.zero_le _
 |i+1,ks,h=>by
  let hm:=h i (Nat.lt_succ_self i);have:=IY i (ks.erase (i:Int)) λj hj=>(List.mem_erase_of_ne ⋯).mpr (h j ⋯);rw[List.length_erase_of_mem hm] at this;have:=List.length_pos_of_mem hm;omega
def kI:Key->Int
 |.inl i=>i
 |.inr _=>0
theorem NJ (i:Nat) (ks:!Key) (h:∀j:Nat,j < i->(inl (j:Int):Key)∈ks):i<=ks.length:=by
 have:=IY i (ks.map kI) λj q=>List.mem_map.mpr (_,h j q,rfl);rwa[rA] at this
theorem TV {kvs:Kvs} {k:Key} (h:k∈WB kvs):(aC kvs k).isSome=true:=by
 cases e:aC kvs k with
 |none=>show absurd h (AX e)
 |some v=>rfl
theorem UV {kvs:Kvs} {k:Key} (h:k∉WB kvs):(aC kvs k).isSome=false:=by
 cases e:aC kvs k with
 |none=>rfl
 |some v=>show absurd (BX e) h
theorem JY {kvs:Kvs} {k:Key} (h:k∈WB kvs):∃v,aC kvs k>v:=by
 cases e:aC kvs k with
 |none=>show absurd h (AX e)
 |some v=>show⟨v,rfl⟩
theorem df {kvs:Kvs} {k:Key} (h:k∉WB kvs):aC kvs k=none:=by
 cases e:aC kvs k with
 |none=>rfl
 |some v=>show absurd (BX e) h
theorem KY {kvs:Kvs} {k:Key} {v:V} (h:aC kvs k>v):(k,v)∈kvs:=by
 unfold aC at h;cases e:kvs.find? λj=>decide (j.1=k) with
 |none=>rw[e] at h;cases h
 |some q=>
  rw[e] at h;cases h;let h1:=List.find?_some e;let h2:=List.mem_of_find?_eq_some e;let h3:q.1=k:=by simpa using h1
  rw[<-h3];show h2
theorem LY {kvs:Kvs} {k:Key} {v:V} (h:k∉WB kvs):QC kvs k v=kvs++[(k,v)]:=l9 v (df h)
def zE (ks:!Key):Prop:=∀k∈ks,∃i:Int,k=inl i
theorem zE.ns:∀{ks:!Key},zE ks->ks=(ks.map kI).map inl
 |[],_=>rfl
 |k::ks,h=>by
  let(i,rfl):=h k zA;rw[CA,CA,<-zE.ns (ks:=ks) λx hx=>h x (wA _ hx)]
  rfl
theorem zE.drop {ks:!Key} {k:Key} (h:zE ks):zE (ks.filter λx=>decide (x≠k)):=λx j=>h x (List.mem_filter.mp j).1
def Kd (d:Addr) (H H':Hp):Prop:=∀c o,H c>o->c≠d->H' c>o
theorem Kd.trans {d:Addr} {H j q:Hp} (a:Kd d H j) (D:Kd d j q):Kd d H q:=λc o h B=>D c o (a c o h B) B
theorem Kd.of {d:Addr} {H j:Hp} (s:vB H j):Kd d H j:=λc o h ο=>s c o h
theorem OJ {d:Addr} {H:Hp} {o:HO}:Kd d H (uB H d o):=λc u h j=>by rw[IB j];show h
def sp_least_free:Sp:=λvs H Q ο=>∃(a:Addr) (kvs:Kvs),vs=[.ref a]/\H a>(.dK kvs)/\∀k:Nat,MJ (WB kvs) k->Q (.int k) H
theorem MY (T:QB K mg A):RC P w K mg base "least_free" 1 ["numbers"] [] sp_least_free:=by
 show T.Lx.have qU (λvs H Q E B=>?_) ?_
 .let(a,kvs,rfl,_):=B;rfl
 .intro f V U a0 s H vs Q E O B;let(a,kvs,rfl,N,q):=B;show(_,(OB (OC (i:=1) qU.nd rfl (Or.inl rfl) HB)
   (OB (Xa SA (jT (lJ (SF O) (oB 1) (oB 0))) (EB (OC (i:=1) qU.nd rfl (Or.inl rfl) (lC CH (oB 1) HB))))
   (EB (PB (oB 1))))),?_)
  unfold yM;rfl';show Za (λm L D=>∃i:Nat,L=[↑a,some (.int i)]/\D=H/\m+i=kvs.length+1/\∀j:Nat,j < i->(inl (j:Int):Key)∈WB kvs) (kvs.length+1) (0,rfl,rfl,rfl,λj h=>absurd h (Nat.not_lt_zero _)) (λm L D=>?_);rintro⟨i,rfl,rfl,Z,F⟩;rfl';show(_,.inl (kvs,inl (i:Int),.inl N,rfl,rfl),?_);by_cases c:(inl (i:Int):Key)∈WB kvs
  .rw[TV c];let J:∀j:Nat,j < i+1->(inl (j:Int):Key)∈WB kvs:=λj h=>by
    let q||rfl:=Nat.lt_succ_iff_lt_or_eq.mp h
    .show F j q
    .show c
   let W:=NJ (i+1) (WB kvs) J;let Y:(WB kvs).length=kvs.length:=by unfold WB;rw[rA]
   show jC (GM ?_);rfl';show(m - 1,⋯,i+1,rfl,⋯,J)
  .rw[UV c];show VB ?_;show q i ⟨c,F⟩
def rG (a:Addr):!(Str×V):=wB "runs" (.ref a) []
theorem jf {a:Addr}:(rG a).lookup ("runs":Str)=↑a:=by rfl
theorem PJ {a:Addr} {m:Str} (h:¬m∈(["runs"]:!Str)):(rG a).lookup m=none:=by
 simp only[iA,xA,dB] at h;unfold rG;simp only[DF,h,VA]
 rfl
def lE (C:Addr) (H:Hp) (v:V):Prop:=∃p dx a,v=.ref p/\H p>(.ins C dx (rG a))/\H a>(.lst [])
theorem lE.keep {C d:Addr} {H q:Hp} {v:V} {kvs:Kvs} (h:lE C H v) (B:H d>(.dK kvs)) (k:Kd d H q):lE C q v:=
 let ⟨p,dx,a,e,h1,h2⟩:=h
 (p,dx,a,e,k _ _ h1 (AG h1 B nofun),k _ _ h2 (AG h2 B nofun))
theorem lE.same {C:Addr} {H j:Hp} {v:V} (h:lE C H v) (s:vB H j):lE C j v:=
 let ⟨p,dx,a,e,h1,h2⟩:=h
 (p,dx,a,e,s _ _ h1,s _ _ h2)
def NY (C:Addr):Sp:=λvs H Q ο=>∃(p dx:Addr),vs=[.ref p]/\H p>(.ins C dx [])/\∀a,H a=none->Q .non (uB (uB H a (.lst [])) p (.ins C dx (rG a)))
theorem lf (T:QB K mg A):kC P w K mg base "Stretches" A.Aj 1 ["self"] [] (NY A.Aj):=by
 show T.Hy.have lc (λvs H Q E j=>?_) ?_
 .let(J,B,rfl,_):=j;rfl
 .intro f O N V s H vs Q E U j;let(J,B,rfl,F,q):=j;show(_,(EB (qC (oB 0) (AD AB) rfl)),?_);rfl';intro a D;let L:J≠a:=NC F D;show(_,B,[],by rw[IB L];show F,T.B7,T.B5,by change 0 < 1000;decide,q a D)
theorem mf {C:Addr} {H:Hp} {x j a:Addr} (F:H x=none) (J:H j=none) (N:j≠x) (q:uB (uB H j (.own x)) x (.ins C j []) a=none):
  vB H (uB (uB (uB (uB H j (.own x)) x (.ins C j [])) a (.lst [])) x (.ins C j (rG a)))/\H a=none/\a≠x/\uB (uB (uB (uB H j (.own x)) x (.ins C j [])) a (.lst [])) x (.ins C j (rG a)) a>(.lst []):=by
 let B:a≠x:=λD=>by rw[D,KB] at q;cases q
 rw[IB B] at q;let L:a≠j:=λD=>by rw[D,KB] at q;cases q
 rw[IB L] at q;show(λc o h=>?_,q,B,by rw[IB B,KB]);rw[IB (NC h F),IB (NC h q),IB (NC h F),IB (NC h J)];show h
def OY (C:Addr):Sp:=λvs H Q ο=>∃v,vs=[v]/\lE C H v/\∀t,H t=none->Q (.ref t) (uB H t (.lst []))
theorem pf (T:QB K mg A):zB P w K mg base A.Aj "told" 1 ["self"] [] (OY A.Aj):=by
 show T.Ia.have pc (λvs H Q E j=>?_) ?_
 .let(v,rfl,_):=j;rfl
 .intro f D B L s H vs Q E J j;let(v,rfl,(N,F,a,rfl,h1,h2),q):=j;show(_,(EB (PB (zT DT rfl T.Fc XA (qB (SB (oB 0) rfl) AB)))),?_);rfl';simp only[h1];rfl';show(T.B7,T.B5,_,jf,a,rfl,_,.inl (RB.of h2),q)
def HL (sh td bd:Addr):!(Str×V):=wB "banks" (.ref bd) (wB "tasks" (.ref td) (wB "shape" (.ref sh) []))
theorem UM {B j q:Addr}:(HL B j q).lookup ("tasks":Str)=↑j:=by rfl
theorem pS {q B j:Addr}:(HL q B j).lookup ("banks":Str)=↑j:=by rfl
theorem fG {q B j:Addr} {m:Str} (h:¬m∈(["shape","tasks","banks"]:!Str)):(HL q B j).lookup m=none:=by
 simp only[iA,xA,dB,not_or] at h;unfold HL;simp only[DF,h.1,h.2.1,h.2.2,VA]
 rfl
set_option genInjectivity false in
structure Hz where
 p:Addr
 sh:Addr
 td:Addr
 bd:Addr
structure fC (C S:Addr) (H:Hp) (z:Hz) (tk bk:Kvs):Prop where
 me:∃dx,H z.p>(.ins C dx (HL z.sh z.td z.bd))
 t:H z.td>(.dK tk)
 b:H z.bd>(.dK bk)
 em:∀kv∈tk,lE S H kv.2
 ne:z.td≠z.bd
theorem fC.same {C S:Addr} {H j:Hp} {B:Hz} {q bk:Kvs} (h:fC C S H B q bk) (s:vB H j):fC C S j B q bk:=
 (let ⟨dx,e⟩:=h.me;⟨dx,s _ _ e⟩,s _ _ h.t,s _ _ h.b,λF D=>(h.em F D).same s,h.ne)
theorem fC.kd {C S:Addr} {H q:Hp} {j:Hz} {D bk kvs:Kvs} {d:Addr} (h:fC C S H j D bk) (B:H d>(.dK kvs)) (k:Kd d H q) (h1:j.td≠d) (h2:j.bd≠d):fC C S q j D bk:=
 (let ⟨dx,e⟩:=h.me;⟨dx,k _ _ e (AG e B nofun)⟩,k _ _ h.t h1,k _ _ h.b h2,λJ F=>(h.em J F).keep B k,h.ne)
def qf (C:Addr):Sp:=λvs H Q ο=>∃(p dx sh:Addr),vs=[.ref p,.ref sh]/\H p>(.ins C dx [])/\∀td bd H',H td=none->H bd=none->td≠bd->Kd p H H'->H' p>(.ins C dx (HL sh td bd))->H' td>(.dK [])->H' bd>(.dK [])->Q .non H'
theorem rf (T:QB K mg A):kC P w K mg base "House" A.Ah 1 ["self","shape"] [] (qf A.Ah):=by
 show T.Lz.have qc (λvs H Q E j=>?_) ?_
 .let(W,O,a0,rfl,_):=j;rfl
 .intro f a2 a1 a4 s H vs Q E a3 j;let(W,O,a0,rfl,Z,q):=j;show(_,(OB (qC (oB 0) (oB 1) rfl)
   (OB (qC (oB 0) mJ rfl)
   (EB (qC (oB 0) mJ rfl)))),?_)
  rfl';simp only[Z];rfl';show(T.As,T.Kk,λL D=>?_);let J:L≠W:=λj=>by rw[j,KB] at D;cases D
  let Y:H L=none:=by rw[IB J] at D;show D
  show(_,O,_,by rw[IB J.symm,KB],T.As,T.A5,by change 1 < 1000;decide,λN B=>?_);let F:N≠W:=λj=>by rw[j,KB] at B;cases B
  rw[IB F] at B;let V:N≠L:=λj=>by rw[j,KB] at B;cases B
  rw[IB V,IB F] at B;show(_,O,_,by rw[IB F.symm,KB],T.As,T.Ba,by change 2 < 1000;decide,?_);show q L N _ Y B V.symm (λc o h U=>?_) KB (by rw[IB J,IB V.symm,IB J,KB]) (by rw[IB F,KB]);rw[IB U,IB (NC h B),IB U,IB (NC h Y),IB U];show h
def qS (C S N:Addr):Sp:=λvs H Q E=>∃(z:Hz) (tk bk:Kvs) (n:Int),vs=[.ref z.p,.int n]/\fC C S H z tk bk/\((inl n∈WB tk/\Q .non H)\/(inl n∉WB tk/\E (.ref N) none H))
theorem QJ (T:QB K mg A):zB P w K mg base A.Ah "check_task" 1 ["self","task"] [] (qS A.Ah A.Aj A.Ag):=by
 show T.Fd.have wc (λvs H Q E j=>?_) ?_
 .let(j,D,bk,n,rfl,_):=j;rfl
 .intro f L J O s H vs Q E F j;let(j,D,bk,n,rfl,B,q):=j;let(N,h1):=B.me;show(_,(EB (BC (jT (wX (SF F) (oB 1) (SB (oB 0) rfl))) (EB (JG IG rfl T.O1 (qB OD AB))) AC)),?_);unfold gE;rfl';simp only[h1];rfl';show(T.As,T.A5,_,UM,j.td,rfl,_,.inl (D,inl n,.inl B.t,rfl,rfl),?_);let(h,q)||(h,q):=q
  .rw[TV h];show VB q
  .rw[UV h];show jC q
def bI (C S N:Addr):Sp:=λvs H Q E=>∃(z:Hz) (tk bk:Kvs) (n:Int),vs=[.ref z.p,.int n]/\fC C S H z tk bk/\((inl n∈WB bk/\Q .non H)\/(inl n∉WB bk/\E (.ref N) none H))
theorem VV (T:QB K mg A):zB P w K mg base A.Ah "check_bank" 1 ["self","bank"] [] (bI A.Ah A.Aj A.Ak):=by
 show T.Fe.have xc (λvs H Q E j=>?_) ?_
 .let(j,F,bk,n,rfl,_):=j;rfl
 .intro f L J O s H vs Q E D j;let(j,F,bk,n,rfl,B,q):=j;let(N,h1):=B.me;show(_,(EB (BC (jT (wX (SF D) (oB 1) (SB (oB 0) rfl))) (EB (JG IG rfl T.O3 (qB OD AB))) AC)),?_);unfold gE;rfl';simp only[h1];rfl';show(T.As,T.Ba,_,pS,j.bd,rfl,_,.inl (bk,inl n,.inl B.b,rfl,rfl),?_);let(h,q)||(h,q):=q
  .rw[TV h];show VB q
  .rw[UV h];show jC q
theorem fC.more {C S:Addr} {H D:Hp} {j:Hz} {B bk:Kvs} {k:Key} {v:V} (h:fC C S H j B bk) (s:vB H D) (L:lE S D v) (U:k∉WB B):fC C S (uB D j.td (.dK (B++[(k,v)]))) j (B++[(k,v)]) bk:=by
 let F:=s _ _ h.t;let(J,e):=h.me;show(⟨J,?_⟩,KB,?_,λO N=>?_,h.ne)
 .rw[IB (AG (s _ _ e) F nofun)];show s _ _ e
 .rw[IB h.ne.symm];show s _ _ h.b
 .let q||q:=bB.mp N
  .show ((h.em O q).same s).keep F OJ
  .rw[AA.mp q];show L.keep F OJ
theorem fC.bank {C S:Addr} {H:Hp} {j:Hz} {B bk q:Kvs} (h:fC C S H j B bk):fC C S (uB H j.bd (.dK q)) j B q:=by
 let(D,e):=h.me;show(⟨D,?_⟩,?_,KB,λJ F=>?_,h.ne)
 .rw[IB (AG e h.b nofun)];show e
 .rw[IB h.ne];show h.t
 .show (h.em J F).keep h.b OJ
def VM (C S:Addr):Sp:=λvs H Q ο=>∃(z:Hz) (tk bk:Kvs),vs=[.ref z.p]/\fC C S H z tk bk/\tk.length < 1000/\
 ∀(k:Nat) (v:V) (H':Hp),MJ (WB tk) k->fC C S H' z (tk++[(inl (k:Int),v)]) bk->Kd z.td H H'->Q (.int k) H'
theorem WV (T:QB K mg A):zB P w K mg base A.Ah "new_task" 3 ["self"] [] (VM A.Ah A.Aj):=by
 let U:=@MY P w K mg base A T;let V:=@lf P w K mg base A T;show T.Ib.have vY (λvs H Q E B=>?_) ?_
 .let(B,O,bk,rfl,_):=B;rfl
 .intro f a5 a4 ab s H vs Q E N B;let(B,O,bk,rfl,F,a7,q):=B;let(W,h1):=F.me;show(_,(OB (OC (i:=1) vY.nd rfl (Or.inl rfl) (CC U (-N) JB (qB (SB (oB 0) rfl) AB)))
   (OB (YR (SF N) (SB (oB 0) rfl) (oB 1) (U9 V (-N) JB) rfl)
   (EB (PB (oB 1))))),?_)
  unfold sp_least_free NY tE;rfl';simp only[h1];rfl';show(T.As,T.A5,_,UM,B.td,rfl,O,F.t,λk L x j a2 a0 a1 D Y=>?_);let(J,a6,a9,Z):=mf a2 a0 a1 Y;let a3:uB (uB (uB (uB H j (.own x)) x (.ins A.Aj j [])) D (.lst [])) x (.ins A.Aj j (rG D)) x>(.ins A.Aj j (rG D)):=KB;generalize uB (uB (uB (uB H j (.own x)) x (.ins A.Aj j [])) D (.lst [])) x (.ins A.Aj j (rG D))=H3 at *;let a8:=PySem.sizeLine_eq;show(_,W,_,J _ _ h1,T.As,T.A5,_,UM,B.td,rfl,_,.inl (O,inl (k:Int),J _ _ F.t,rfl,⋯,rfl),?_);rw[LY L.1];show q k _ _ L (F.more J (x,j,D,rfl,a3,Z) L.1) ((Kd.of J).trans OJ)
def WM (C S N:Addr):Sp:=λvs H Q E=>∃(z:Hz) (tk bk:Kvs) (n:Int),vs=[.ref z.p,.int n]/\fC C S H z tk bk/\bk.length < 1000/\
 (((1<=n/\n<=64)/\∀(k:Nat) (H':Hp),MJ (WB bk) k->fC C S H' z tk (bk++[(inl (k:Int),.int n)])->Kd z.bd H H'->Q (.int k) H')\/(¬(1<=n/\n<=64)/\E (.ref N) none H))
theorem XV (T:QB K mg A):zB P w K mg base A.Ah "new_bank" 4 ["self","many"] [] (WM A.Ah A.Aj A.A7):=by
 let L:=@MY P w K mg base A T;let J:=@SV P w K mg base A T;show T.Ic.have wY (λvs H Q E j=>?_) ?_
 .let(j,N,bk,n,rfl,_):=j;rfl
 .intro f U O Z s H vs Q E D j;let(j,N,bk,n,rfl,B,W,q):=j;let(V,h1):=B.me;show(_,(OB (BC (WE (MD (CC J (-D) JB (qB (oB 1) (qB HB (qB (HG rfl T.Ki) AB)))))) (EB (JG IG rfl T.M4 (qB OD AB))) AC)
   (OB (OC (i:=2) wY.nd rfl (Or.inl rfl) (CC L (-D) JB (qB (SB (oB 0) rfl) AB)))
   (OB (YR (SF D) (SB (oB 0) rfl) (oB 2) (oB 1) rfl)
   (EB (PB (oB 2)))))),?_)
  unfold sp_least_free sp_is_within tE;rfl';simp only[h1];rfl';let Y:=PySem.sizeLine_eq;rw[sJ];let((h2,h3),q)||(h,q):=q
  .rw[DA h2,DA h3];show VB (T.As,T.Ba,_,pS,j.bd,rfl,bk,B.b,λk F=>(T.As,T.Ba,_,pS,j.bd,rfl,_,.inl (bk,inl (k:Int),B.b,rfl,⋯,rfl),?_));rw[LY F.1];show q k _ F B.bank OJ
  .let e:(decide (1<=n)&&decide (n<=64))=false:=by
    rw[Bool.eq_false_iff];intro j;simp only[IA,decide_eq_true_eq] at j;show h j
   rw[e];show jC q
def PY (ns ms:!Int):Prop:=List.Perm ms ns/\ms.Pairwise (·<=·)
def XM (C S:Addr):Sp:=λvs H Q ο=>∃(z:Hz) (tk bk:Kvs),vs=[.ref z.p]/\fC C S H z tk bk/\zE (WB tk)/\tk.length < 64/\∀l ms,H l=none->PY ((WB tk).map kI) ms->Q (.ref l) (uB H l (.lst (ms.map V.int)))
theorem YV (T:QB K mg A):zB P w K mg base A.Ah "task_list" 1 ["self"] [] (XM A.Ah A.Aj):=by
 show T.Gy.have rc (λvs H Q E j=>?_) ?_
 .let(j,B,bk,rfl,_):=j;rfl
 .intro f O N W s H vs Q E V j;let(j,B,bk,rfl,D,F,J,q):=j;let(U,h1):=D.me;show(_,(EB (PB (kD (WX rfl) rfl T.Hw PyProof.Rows.boot_sorted (qB (SB (oB 0) rfl) AB)))),?_);rfl';simp only[h1];rfl';show(T.As,T.A5,_,UM,j.td,rfl,B,.inl D.t,(WB B).map kI,F.ns,by unfold WB;rw[rA,rA];show J,λl L h1 h2 h3=>q l L h1 ⟨h2,h3⟩)
def YM (C S:Addr):Sp:=λvs H Q ο=>∃(z:Hz) (tk bk:Kvs),vs=[.ref z.p]/\fC C S H z tk bk/\zE (WB bk)/\bk.length < 64/\∀l ms,H l=none->PY ((WB bk).map kI) ms->Q (.ref l) (uB H l (.lst (ms.map V.int)))
theorem ZV (T:QB K mg A):zB P w K mg base A.Ah "bank_list" 1 ["self"] [] (YM A.Ah A.Aj):=by
 show T.Gz.have uc (λvs H Q E j=>?_) ?_
 .let(j,L,bk,rfl,_):=j;rfl
 .intro f O N W s H vs Q E V j;let(j,L,bk,rfl,B,D,F,q):=j;let(U,h1):=B.me;show(_,(EB (PB (kD (WX rfl) rfl T.Hw PyProof.Rows.boot_sorted (qB (SB (oB 0) rfl) AB)))),?_);rfl';simp only[h1];rfl';show(T.As,T.Ba,_,pS,j.bd,rfl,bk,.inl B.b,(WB bk).map kI,D.ns,by unfold WB;rw[rA,rA];show F,λl J h1 h2 h3=>q l J h1 ⟨h2,h3⟩)
def cI (C S N:Addr):Sp:=λvs H Q E=>∃(z:Hz) (tk bk:Kvs) (n:Int),vs=[.ref z.p,.int n]/\fC C S H z tk bk/\((inl n∈WB tk/\∀l,H l=none->Q (.ref l) (uB H l (.lst [])))\/(inl n∉WB tk/\E (.ref N) none H))
theorem ZM (T:QB K mg A):zB P w K mg base A.Ah "stretches_of" 2 ["self","task"] [] (cI A.Ah A.Aj A.Ag):=by
 let V:=@QJ P w K mg base A T;let W:=@pf P w K mg base A T;show T.Da.have vc (λvs H Q E j=>?_) ?_
 .let(j,L,bk,n,rfl,_):=j;rfl
 .intro f a1 a0 a3 s H vs Q E F j;let(j,L,bk,n,rfl,B,q):=j;let(a2,h1):=B.me;show(_,(OB (AF (uD (oB 0) T.As V (-F) JB (qB (oB 1) AB)))
   (EB (PB (WC (WR (SF F) (SB (oB 0) rfl) (oB 1) (λο ο=>rfl)) T.B7 W (-F) JB)))),?_)
  unfold qS sE OY;rfl';simp only[h1];rfl';show(fG ∅,j,rfl,L,bk,B,?_);let(h,q)||(h,q):=q
  .let(v,U):=JY h;let(J,N,Y,D,O,Z):=B.em _ (KY U);let D:v=.ref J:=D;subst D;show .inl (h,T.As,T.A5,_,UM,j.td,rfl,_,.inl (L,inl n,.inl B.t,rfl,U.symm),J,rfl,N,_,O,PJ ∅,(J,N,Y,rfl,O,Z),q)
  .show .inr ⟨h,q⟩
def aW:V->Bool
 |.non=>true
 |.bl _=>true
 |.int _=>true
 |.str _=>true
 |_=>false
mutual
noncomputable def mD (H:Hp):Dv->V->Prop
 |.leaf v,x=>x=v/\aW v=true
 |.seq t ds,x=>∃a xs,x=.ref a/\H a>(if t=true then .tup xs else .lst xs)/\ds.length < 16777216/\cC H ds xs
noncomputable def cC (H:Hp):!Dv->!V->Prop
 |[],xs=>xs=[]
 |d::ds,xs=>∃x r,xs=x::r/\mD H d x/\cC H ds r
end
theorem cC.len {H:Hp}:∀{ds:!Dv} {xs:!V},cC H ds xs->xs.length=ds.length
 |[],xs,h=>by unfold cC at h;subst h;rfl
 |d::ds,xs,h=>by
  unfold cC at h;let(x,r,rfl,_,h):=h;simp[h.len]
theorem cC.at {H:Hp}:∀{ds:!Dv} {xs:!V} {i:Nat} {d:Dv},cC H ds xs->ds[i]?>d->∃x,xs[i]?>x/\mD H d x
 |[],_,_,_,_,h=>by simp at h
 |d::ds,xs,0,e,h,hi=>by
  unfold cC at h;let(x,r,rfl,hx,_):=h;simp at hi;subst hi;show(x,rfl,hx)
 |d::ds,xs,i+1,e,h,hi=>by
  unfold cC at h;let(x,r,rfl,_,h):=h;simp at hi;let(y,hy,hl):=h.at hi;show(y,by simpa using hy,hl)
theorem QY:∀{ds:!Dv} {i:Nat} {d:Dv},ds[i]?>d->RD d<=eC ds
 |[],_,_,h=>by simp at h
 |d::ds,0,e,h=>by
  simp at h;subst h;rw[eC];show Nat.le_max_left ..
 |d::ds,i+1,e,h=>by
  simp at h;rw[eC];show cB (QY h) (Nat.le_max_right ..)
mutual
theorem mD.same {H H':Hp}:∀{d:Dv} {x:V},mD H d x->vB H H'->mD H' d x
 |.leaf v,x,h,_=>by unfold mD at h ⊢;show h
 |.seq t ds,x,h,s=>by
  unfold mD at h ⊢;let(a,xs,e,ha,hz,hl):=h;show(a,xs,e,s _ _ ha,hz,hl.same s)
theorem cC.same {H H':Hp}:∀{ds:!Dv} {xs:!V},cC H ds xs->vB H H'->cC H' ds xs
 |[],xs,h,_=>by unfold cC at h ⊢;show h
 |d::ds,xs,h,s=>by
  unfold cC at h ⊢;let(x,r,e,hx,hl):=h;show(x,r,e,hx.same s,hl.same s)
end
def RY:Nat->Sp
 |0=>λο ο ο ο=>False
 |n+1=>λvs H Q ο=>∃(x y:V) (d:Dv),vs=[x,y]/\mD H d x/\mD H d y/\RD d<=n/\∀H',vB H H'->Q (.bl true) H'
theorem dI {H:Hp} {a:Addr} {o:HO} {n:String} (h:H a>o) (e:(wD (some o) == n || (wD (some o) == "bool"&&n == "int"))=false):GD n H (.ref a)=false:=by
 unfold GD;rw[show kd H (.ref a)=wD (H a) from rfl,h];show e
theorem bW (T:QB K mg A):∀n,RC P w K mg base "_law_like" (n+1) ["_law_found","_law_due"] [] (RY n):=by
 intro n
 induction n with
 |zero=>show T.Ly.have IV (λvs H Q E J=>J.elim) (λο ο ο ο ο ο ο ο ο ο J=>J.elim)
 |succ n be=>
  let b1:=be;show T.Ly.have IV (λvs H Q E J=>?_) ?_
  .let(x,O,d,rfl,_):=J;rfl
  .intro f c0 bm cd s H vs Q E b5 J;let(x,O,d,rfl,a4,a5,ad,q):=J;show(_,(OB (BC (rD UR (oB 1) oE (FB _)) (EB (PB (mM UR (oB 0) oE (FB _)))) AC)
   (OB (BC (MD (kD gF rfl T.An bA (qB (oB 1) (qB (YE (n:="bool") rfl T.Jp PyProof.Rows.boot_bool) AB)))) (EB (PB (wH (kD gF rfl T.An bA (qB (oB 0) (qB (YE (n:="bool") rfl T.Jp PyProof.Rows.boot_bool) AB))) (wL (mM CF (oB 0) (oB 1) (FB _)))))) AC)
   (OB (BC (MD (kD gF rfl T.An bA (qB (oB 1) (qB (YE (n:="int") rfl T.Ng PyProof.Rows.boot_int) AB)))) (EB (PB (wH (kD gF rfl T.An bA (qB (oB 0) (qB (YE (n:="int") rfl T.Ng PyProof.Rows.boot_int) AB))) (wH (SW (kD gF rfl T.An bA (qB (oB 0) (qB (YE (n:="bool") rfl T.Jp PyProof.Rows.boot_bool) AB)))) (wL (mM CF (oB 0) (oB 1) (FB _))))))) AC)
   (OB (BC (MD (kD gF rfl T.An bA (qB (oB 1) (qB (YE (n:="str") rfl T.Ph PyProof.Rows.boot_str) AB)))) (EB (PB (wH (kD gF rfl T.An bA (qB (oB 0) (qB (YE (n:="str") rfl T.Ph PyProof.Rows.boot_str) AB))) (wL (mM CF (oB 0) (oB 1) (FB _)))))) AC)
   (ID (BC (PW.pt (RW (MD (kD gF rfl T.An bA (qB (oB 1) (qB (YE (n:="list") rfl T.Fc XA) AB)))) (QW (WE (MD (kD gF rfl T.An bA (qB (oB 0) (qB (YE (n:="list") rfl T.Fc XA) AB)))))))) (EB (PB zF)) AC)
   (ID (BC (PW.pt (RW (MD (kD gF rfl T.An bA (qB (oB 1) (qB (YE (n:="tuple") rfl T.Nf PyProof.Rows.boot_tuple) AB)))) (QW (WE (MD (kD gF rfl T.An bA (qB (oB 0) (qB (YE (n:="tuple") rfl T.Nf PyProof.Rows.boot_tuple) AB)))))))) (EB (PB zF)) AC)
   (OB (BC (rD SR (kD yL rfl T.Gw PySem.boot_len (qB (oB 0) AB)) (kD yL rfl T.Gw PySem.boot_len (qB (oB 1) AB)) (FB _)) (EB (PB zF)) AC)
   (OB (CL SA rfl (OR rfl T.Gx (qB (kD yL rfl T.Gw PySem.boot_len (qB (oB 1) AB)) AB)) (GE (i:=2) IV.nd rfl (Or.inl rfl)) (EB (BC (WE (MD (CC b1 (b5.mono ⋯) JB (qB (BD ZX (oB 0) (oB 2) (λο ο=>rfl)) (qB (BD ZX (oB 1) (oB 2) (λο ο=>rfl)) AB))))) (EB (PB zF)) AC)))
   (EB (PB zF)))))))))),?_)
   cases d with
   |leaf v=>
    unfold mD at a4 a5;let(b2,bb):=a4;let(b3,_):=a5;subst b2;subst b3;cases O with
    |non=>
     rfl';show q _ ZB
    |bl W=>
     rfl';rw[kA nofun];show⟨by decide,jC ⟨by decide,jC (q _ ZB)⟩⟩
    |int i=>
     rfl';rw[kA nofun];show⟨by decide,VB ⟨by decide,jC ⟨by decide,jC ⟨by decide,jC (q _ ZB)⟩⟩⟩⟩
    |str t=>
     rfl';rw[kA nofun];show⟨by decide,VB ⟨by decide,VB ⟨by decide,jC ⟨by decide,jC (q _ ZB)⟩⟩⟩⟩
    |_=>cases bb
   |seq t a7=>
    unfold mD at a4 a5;let(a,xs,rfl,N,ca,ah):=a4;let(W,a9,rfl,j,_,ap):=a5;let c2:=ah.len;let c3:=ap.len;let c1:eC a7+1<=n:=by rw[RD] at ad;show ad
    let step:∀(i:Nat) (B:Hp) (a6:VK) (ac:XK),i < a7.length->vB H B->(∀D,vB H D->a6 (.bl true) D)->∃x O,xs[i]?>x/\a9[i]?>O/\RY n [x,O] B a6 ac:=λi B a6 ac a0 F b4=>by
     let(x,a1,bc):=ah.at (BA a0);let(O,a2,bd):=ap.at (BA a0);show(x,O,a1,a2,?_);cases n with
     |zero=>omega
     |succ n=>show(x,O,a7[i],rfl,bc.same F,bd.same F,by have:=QY (BA a0);omega,λD a3=>b4 _ (F.trans a3))
    rfl';rw[kA nofun];cases t with
    |false=>
     let N:H a>(.lst xs):=N;let j:H W>(.lst a9):=j;rw[dI j rfl,dI j rfl,dI j rfl];show(by decide,AL j,VB (by decide,AL j,VB (by decide,AL j,VB (λL B=>L=[↑a,↑W,none]/\B=H,?_,λab B=>?_))))
     .rfl';rw[NX j,NX N];show(by decide,AL j,jC (by decide,AL N,VB trivial))
     rintro⟨rfl,rfl⟩;show(λL D=>L=[↑a,↑W,none]/\D=B,?_,λab D=>?_)
     .rfl';rw[dI j rfl];show(by decide,AL j,VB (VB trivial))
     rintro⟨rfl,rfl⟩;rfl';show(_,.inl (_,RB.of N,rfl),_,.inl (_,RB.of j,rfl),?_);rw[DA ⋯];show VB (_,.inl (_,RB.of j,rfl),⋯,⋯,?_);show bS (λi L U=>∃Y,L=[↑a,↑W,Y]/\vB D U) (_,rfl,ZB) (λi L U a0=>?_) (λL U=>?_)
     .rintro⟨Y,rfl,F⟩;rfl';let(x,O,a1,a2,a8):=step i U (λx Z=>∃c,x=V.bl c/\if (not c)=true then Q (V.bl false) Z else vB D Z) (λc x B=>E c none B) ⋯ F (λD a3=>(true,rfl,VB a3));show .inl (_,RB.of (F _ _ N),x,by rw[Int.zero_add];show XE a1,.inl (_,RB.of (F _ _ j),O,by rw[Int.zero_add];show XE a2,a8))
     .rintro⟨Y,rfl,F⟩;rfl';show q _ F
    |true=>
     let N:H a>(.tup xs):=N;let j:H W>(.tup a9):=j;rw[dI j rfl,dI j rfl,dI j rfl];show(by decide,BL j,VB (by decide,BL j,VB (by decide,BL j,VB (λL B=>L=[↑a,↑W,none]/\B=H,?_,λab B=>?_))))
     .rfl';rw[dI j rfl];show(by decide,BL j,VB (VB trivial))
     rintro⟨rfl,rfl⟩;show(λL D=>L=[↑a,↑W,none]/\D=B,?_,λab D=>?_)
     .rfl';rw[MX j,MX N];show(by decide,BL j,jC (by decide,BL N,VB trivial))
     rintro⟨rfl,rfl⟩;rfl';show(_,.inr (_,ED.of N,rfl),_,.inr (_,ED.of j,rfl),?_);rw[DA ⋯];show VB (_,.inr (_,ED.of j,rfl),⋯,⋯,?_);show bS (λi L U=>∃Y,L=[↑a,↑W,Y]/\vB D U) (_,rfl,ZB) (λi L U a0=>?_) (λL U=>?_)
     .rintro⟨Y,rfl,F⟩;rfl';let(x,O,a1,a2,a8):=step i U (λx Z=>∃c,x=V.bl c/\if (not c)=true then Q (V.bl false) Z else vB D Z) (λc x B=>E c none B) ⋯ F (λD a3=>(true,rfl,VB a3));show .inr (_,ED.of (F _ _ N),x,by rw[Int.zero_add];show XE a1,.inr (_,ED.of (F _ _ j),O,by rw[Int.zero_add];show XE a2,a8))
     .rintro⟨Y,rfl,F⟩;rfl';show q _ F
def Kp (ex:!Addr) (H H':Hp):Prop:=∀c o,H c>o->c∉ex->H' c>o
theorem Kp.trans {j:!Addr} {H q B:Hp} (a:Kp j H q) (D:Kp j q B):Kp j H B:=λc o h n=>D c o (a c o h n) n
theorem Kp.of {q:!Addr} {H j:Hp} (s:vB H j):Kp q H j:=λc o h ο=>s c o h
theorem Kp.set {s:Addr} {H j:Hp} {o:HO} (k:Kp [s] H j):Kp [s] H (uB j s o):=λc q h n=>by rw[IB (λe=>n (AA.mpr e))];show k c q h n
theorem Kp.at {s c:Addr} {H j:Hp} {o:HO} (k:Kp [s] H j) (h:H c>o) (n:c≠s):j c>o:=k c o h λq=>n (AA.mp q)
theorem Kp.made {x j C:Addr} {H q:Hp} (B:H x=none) (D:H j=none) (F:j≠x) (k:Kp [x] (uB (uB H j (.own x)) x (.ins C j [])) q):vB H q:=λc o h=>k.at (NG (o:=.ins C j []) B D F c o h) (NC h B)
theorem gG {x j C c:Addr} {H:Hp} (D:H x=none) (q:H j=none) (B:j≠x) (h:uB (uB H j (.own x)) x (.ins C j []) c=none):H c=none:=GL (NG (o:=.ins C j []) D q B) h
theorem aN (k:Nat):(List.replicate k [V.non]).flatten=List.replicate k V.non:=by
 induction k with
 |zero=>rfl
 |succ k j=>rw[UA,List.flatten_cons,j];rfl
abbrev nn (k:Nat):HO:=.lst (List.replicate k V.non)
def sG (ly:Addr) (tw:Addr):!(Str×V):=wB "twins" (.ref tw) (wB "lying" (.ref ly) [])
theorem rS {j:Addr} {q:Addr}:(sG j q).lookup ("lying":Str)=↑j:=by rfl
theorem sf {q:Addr} {j:Addr}:(sG q j).lookup ("twins":Str)=↑j:=by rfl
theorem SY {q:Addr} {B:Addr} {m:Str} (h:¬m∈(["lying","twins"]:!Str)):(sG q B).lookup m=none:=by
 simp only[iA,xA,dB,not_or] at h;let(a0,j):=h;unfold sG;simp only[DF,a0,j,VA]
 rfl
def tG (n:Int) (fp:Addr) (sq:Addr):!(Str×V):=wB "come_back" (.int 0) (wB "gone_astray" (.int 0) (wB "gone_out" (.int 0) (wB "hand" (.int 0) (wB "slots" (.ref sq) (wB "frames" (.ref fp) (wB "size" (.int n) []))))))
theorem TY {n:Int} {j:Addr} {q:Addr}:(tG n j q).lookup ("frames":Str)=↑j:=by rfl
theorem sS {n:Int} {q:Addr} {j:Addr}:(tG n q j).lookup ("slots":Str)=↑j:=by rfl
theorem tf {n:Int} {j:Addr} {q:Addr}:(tG n j q).lookup ("hand":Str)>(.int 0):=by rfl
theorem uf {n:Int} {j:Addr} {q:Addr}:(tG n j q).lookup ("gone_out":Str)>(.int 0):=by rfl
theorem vf {n:Int} {j:Addr} {q:Addr}:(tG n j q).lookup ("gone_astray":Str)>(.int 0):=by rfl
theorem wf {n:Int} {j:Addr} {q:Addr}:(tG n j q).lookup ("come_back":Str)>(.int 0):=by rfl
theorem IL {n:Int} {L:Addr} {N:Addr} {m:Str} (h:¬m∈(["size","frames","slots","hand","gone_out","gone_astray","come_back"]:!Str)):(tG n L N).lookup m=none:=by
 simp only[iA,xA,dB,not_or] at h;let(a0,j,q,B,D,F,J):=h;unfold tG;simp only[DF,a0,j,q,B,D,F,J,VA]
 rfl
def bN (ra:Addr) (fa:Addr):!(Str×V):=wB "hand" (.int 0) (wB "found" (.ref fa) (wB "rows" (.ref ra) []))
theorem xf {j:Addr} {q:Addr}:(bN j q).lookup ("rows":Str)=↑j:=by rfl
theorem RJ {D:Addr} {B:Addr} {m:Str} (h:¬m∈(["rows","found","hand"]:!Str)):(bN D B).lookup m=none:=by
 simp only[iA,xA,dB,not_or] at h;let(a0,j,q):=h;unfold bN;simp only[DF,a0,j,q,VA]
 rfl
def SJ (sh:Addr) (td:Addr) (bd:Addr) (bk:Addr):!(Str×V):=wB "book" (.ref bk) (wB "banks" (.ref bd) (wB "tables" (.ref td) (wB "shape" (.ref sh) [])))
theorem yf {j:Addr} {B:Addr} {q:Addr} {bk:Addr}:(SJ j B q bk).lookup ("shape":Str)=↑j:=by rfl
theorem cW {B:Addr} {j:Addr} {q:Addr} {bk:Addr}:(SJ B j q bk).lookup ("tables":Str)=↑j:=by rfl
theorem UY {q:Addr} {B:Addr} {j:Addr} {bk:Addr}:(SJ q B j bk).lookup ("banks":Str)=↑j:=by rfl
theorem zf {q:Addr} {B:Addr} {j:Addr} {bk:Addr}:(SJ q B j bk).lookup ("book":Str)=↑bk:=by rfl
theorem JL {F:Addr} {J:Addr} {D:Addr} {bk:Addr} {m:Str} (h:¬m∈(["shape","tables","banks","book"]:!Str)):(SJ F J D bk).lookup m=none:=by
 simp only[iA,xA,dB,not_or] at h;let(a0,j,q,B):=h;unfold SJ;simp only[DF,a0,j,q,B,VA]
 rfl
def hG (sh:Addr) (tp:Addr):!(Str×V):=wB "top" (.ref tp) (wB "shape" (.ref sh) [])
theorem VY {j:Addr} {q:Addr}:(hG j q).lookup ("shape":Str)=↑j:=by rfl
theorem WY {q:Addr} {j:Addr}:(hG q j).lookup ("top":Str)=↑j:=by rfl
theorem XY {q:Addr} {B:Addr} {m:Str} (h:¬m∈(["shape","top"]:!Str)):(hG q B).lookup m=none:=by
 simp only[iA,xA,dB,not_or] at h;let(a0,j):=h;unfold hG;simp only[DF,a0,j,VA]
 rfl
def uG (sh:Addr) (n:Int) (ss:Addr) (en:Addr) (kn:Addr):!(Str×V):=wB "folded" (.int 0) (wB "copies_made" (.int 0) (wB "blank_made" (.int 0) (wB "touches" (.int 0) (wB "from_book" (.int 0) (wB "known" (.ref kn) (wB "entries" (.ref en) (wB "sheets" (.ref ss) (wB "frame_count" (.int n) (wB "shape" (.ref sh) [])))))))))
theorem cN {D:Addr} {n:Int} {j:Addr} {q:Addr} {B:Addr}:(uG D n j q B).lookup ("sheets":Str)=↑j:=by rfl
theorem KL {B:Addr} {n:Int} {D:Addr} {j:Addr} {q:Addr}:(uG B n D j q).lookup ("entries":Str)=↑j:=by rfl
theorem Rf {B:Addr} {n:Int} {D:Addr} {j:Addr} {q:Addr}:(uG B n D j q).lookup ("from_book":Str)>(.int 0):=by rfl
theorem Sf {B:Addr} {n:Int} {D:Addr} {j:Addr} {q:Addr}:(uG B n D j q).lookup ("touches":Str)>(.int 0):=by rfl
theorem Tf {B:Addr} {n:Int} {D:Addr} {j:Addr} {q:Addr}:(uG B n D j q).lookup ("blank_made":Str)>(.int 0):=by rfl
theorem Uf {B:Addr} {n:Int} {D:Addr} {j:Addr} {q:Addr}:(uG B n D j q).lookup ("copies_made":Str)>(.int 0):=by rfl
theorem Vf {B:Addr} {n:Int} {D:Addr} {j:Addr} {q:Addr}:(uG B n D j q).lookup ("folded":Str)>(.int 0):=by rfl
theorem FF {W:Addr} {n:Int} {Y:Addr} {U:Addr} {V:Addr} {m:Str} (h:¬m∈(["shape","frame_count","sheets","entries","known","from_book","touches","blank_made","copies_made","folded"]:!Str)):(uG W n Y U V).lookup m=none:=by
 simp only[iA,xA,dB,not_or] at h;let(a0,j,q,B,D,F,J,L,N,O):=h;unfold uG;simp only[DF,a0,j,q,B,D,F,J,L,N,O,VA]
 rfl
def dN (sh:Addr) (hp:Addr) (kp:Addr):!(Str×V):=wB "keeper" (.ref kp) (wB "house" (.ref hp) (wB "shape" (.ref sh) []))
theorem VG {q:Addr} {j:Addr} {kp:Addr}:(dN q j kp).lookup ("house":Str)=↑j:=by rfl
theorem iG {q:Addr} {j:Addr} {kp:Addr}:(dN q j kp).lookup ("keeper":Str)=↑kp:=by rfl
theorem UE {D:Addr} {B:Addr} {kp:Addr} {m:Str} (h:¬m∈(["shape","house","keeper"]:!Str)):(dN D B kp).lookup m=none:=by
 simp only[iA,xA,dB,not_or] at h;let(a0,j,q):=h;unfold dN;simp only[DF,a0,j,q,VA]
 rfl
def Wf (C s dx:Addr) (n:Nat) (H G:Hp):Prop:=∃ly,H ly=none/\Kp [s] H G/\G s>(.ins C dx (wB "lying" (.ref ly) []))/\G ly>(nn n)
def TJ (C:Addr):Sp:=λvs H Q ο=>∃(s dx:Addr) (n:Nat),vs=[.ref s,.int n]/\H s>(.ins C dx [])/\n<=64/\∀ly tw H',H ly=none->H tw=none->Kp [s] H H'->H' s>(.ins C dx (sG ly tw))->H' ly>(nn n)->H' tw>(nn n)->Q .non H'
theorem eN (T:QB K mg A):kC P w K mg base "Spots" A.Am 1 ["self","many"] [] (TJ A.Am):=by
 show T.Ma.have md (λvs H Q E W=>?_) ?_
 .let(s,J,n,rfl,_):=W;rfl
 .intro f ac ab ap s H vs Q E ah W;let(s,J,n,rfl,O,ad,q):=W;show(_,(ID (qC (oB 0) (lC IH (AD (qB oE AB)) (oB 1)) rfl)
   (EB (qC (oB 0) (lC IH (AD (qB oE AB)) (oB 1)) rfl))),?_)
  unfold rRep;show(λa9 a2=>a9=[↑s,some (.int (n:Int))]/\Wf A.Am s J n H a2,?_,λb1 a3=>?_)
  .rfl';intro a6 N;let D:=wC (o:=.lst [V.non]) (ZB (H:=H)) N;show([.non],rfl,⋯,⋯,by change 1 * n<=16777216;omega,λF B=>?_);rw[QA,aN];let Z:=GL D B;let j:=wC (o:=nn n) D B;let a8:s≠F:=NC O Z;show(A.Am,J,[],j _ _ O,T.Bc,T.Bb,by decide,F,Z,(Kp.of j).set,KB,by rw[IB a8.symm,KB])
  rintro⟨rfl,F,B,k1,Y,a4⟩;rfl';intro a6 N;let D:=wC (o:=.lst [V.non]) (ZB (H:=a3)) N;show([.non],rfl,⋯,⋯,by change 1 * n<=16777216;omega,λL a0=>?_);rw[QA,aN];let U:=GL D a0;let j:=wC (o:=nn n) D a0;let a1:L≠s:=λe=>by rw[e,Y] at U;cases U
  let a7:F≠s:=λe=>by rw[e,O] at B;cases B
  let a5:H L=none:=by
   cases e:H L with
   |none=>rfl
   |some o=>have:=k1.at e a1;rw[U] at this;cases this
  show(A.Am,J,_,j _ _ Y,T.Bc,T.Cj,by change 1 < 1000;decide,?_);show q F L _ B a5 (k1.trans (Kp.of j)).set KB (by rw[IB a7];show j _ _ a4) (by rw[IB a1,KB])
set_option genInjectivity false in
structure Sn where
 p:Addr
 fp:Addr
 ly:Addr
 tw:Addr
 sq:Addr
 ls:Addr
 ts:Addr
def Sn.all (z:Sn):!Addr:=[z.fp,z.ly,z.tw,z.sq,z.ls,z.ts]
structure dC (C P:Addr) (H:Hp) (z:Sn) (n m:Nat):Prop where
 me:∃dx i,H z.p>(.ins C dx (tG i z.fp z.sq))
 fr:∃dx,H z.fp>(.ins P dx (sG z.ly z.tw))
 sl:∃dx,H z.sq>(.ins P dx (sG z.ls z.ts))
 l1:H z.ly>(nn n)
 l2:H z.tw>(nn n)
 l3:H z.ls>(nn m)
 l4:H z.ts>(nn m)
 len:n<=64/\m<=64
theorem dC.kp {C P:Addr} {H q:Hp} {j:Sn} {n m:Nat} (h:dC C P H j n m) (k:∀c∈j.p::j.all,∀o,H c>o->q c>o):dC C P q j n m:=by
 let((F,i,h1),(B,h2),(D,h3),J,L,N,O,U):=h;show((F,i,k _ (by simp) _ h1),⟨B,k _ (by simp[Sn.all]) _ h2⟩,⟨D,k _ (by simp[Sn.all]) _ h3⟩,k _ (by simp[Sn.all]) _ J,k _ (by simp[Sn.all]) _ L,k _ (by simp[Sn.all]) _ N,k _ (by simp[Sn.all]) _ O,U)
theorem dC.same {C P:Addr} {H j:Hp} {q:Sn} {n m:Nat} (h:dC C P H q n m) (s:vB H j):dC C P j q n m:=h.kp λc ο o B=>s c o B
def dW (C s dx:Addr) (i:Int) (H G:Hp):Prop:=Kp [s] H G/\G s>(.ins C dx (wB "size" (.int i) []))
def eW (C P s dx:Addr) (i:Int) (n:Nat) (fp ly tw:Addr) (H G:Hp):Prop:=∃d1,Kp [s] H G/\G s>(.ins C dx (wB "frames" (.ref fp) (wB "size" (.int i) [])))/\(H fp=none/\H ly=none/\H tw=none)/\G fp>(.ins P d1 (sG ly tw))/\G ly>(nn n)/\G tw>(nn n)
def fW (C P s dx fp:Addr) (i:Int) (m:Nat) (sq ls ts:Addr) (H G2 G:Hp):Prop:=∃d2,Kp [s] G2 G/\G s>(.ins C dx (wB "slots" (.ref sq) (wB "frames" (.ref fp) (wB "size" (.int i) []))))/\(H sq=none/\H ls=none/\H ts=none)/\G sq>(.ins P d2 (sG ls ts))/\G ls>(nn m)/\G ts>(nn m)
def UJ (C P:Addr):Sp:=λvs H Q ο=>∃(s dx:Addr) (n m:Nat) (i:Int),vs=[.ref s,.int n,.int m,.int i]/\H s>(.ins C dx [])/\n<=64/\m<=64/\∀H' z,dC C P H' z n m->z.p=s->(∀c∈z.all,H c=none)->Kp [s] H H'->Q .non H'
theorem fN (T:QB K mg A):kC P w K mg base "Sheets" A.Ac 3 ["self","frames","slots","size"] [] (UJ A.Ac A.Am):=by
 show T.Lg.have sd (λvs H Q E b4=>?_) ?_
 .let(s,B,n,m,i,rfl,_):=b4;rfl
 .intro f d2 cs d3 s H vs Q E be b4;let(s,B,n,m,i,rfl,bl,bd,bc,q):=b4;let Y:∀{j:Hp} {o:HO} {c},Kp [s] H j->j s>o->j c=none->H c=none/\c≠s:=λ{j o c} k g h=>by
   let n:c≠s:=λe=>by rw[e,g] at h;cases h
   show⟨?_,n⟩;cases e:H c with
   |none=>rfl
   |some o=>have:=k.at e n;rw[h] at this;cases this
  show(_,(ID (qC (oB 0) (oB 3) rfl)
   (ID (qC (oB 0) (VF (eN T) (-be) JB (qB (oB 1) AB)) rfl)
   (ID (qC (oB 0) (VF (eN T) (-be) JB (qB (oB 2) AB)) rfl)
   (OB (qC (oB 0) HB rfl)
   (OB (qC (oB 0) HB rfl)
   (OB (qC (oB 0) HB rfl)
   (EB (qC (oB 0) HB rfl)))))))),?_)
  show(λa2 j=>a2=[↑s,some (.int (n:Int)),some (.int (m:Int)),some (.int i)]/\dW A.Ac s B i H j,?_,λdb d1=>?_)
  .rfl';show(A.Ac,B,[],bl,T.Ap,T.Km,by decide,(Kp.of ZB).set,KB)
  rintro⟨rfl,k1,a5⟩;show(λa2 j=>a2=[↑s,some (.int (n:Int)),some (.int (m:Int)),some (.int i)]/\∃D W a0,eW A.Ac A.Am s B i n D W a0 H j,?_,λdd bm=>?_)
  .rfl';intro D a3 a7 b1 O;show(D,a3,n,rfl,KB,bd,λW a0 c0 ch cl b3 a9 ab ac=>?_);let a1:=Kp.made a7 b1 O b3;let F:=Y k1 a5 a7;let J:=Y k1 a5 (gG a7 b1 O ch);let L:=Y k1 a5 (gG a7 b1 O cl);show(rfl,A.Ac,B,_,a1 _ _ a5,T.Ap,T.Bl,by change 1 < 1000;decide,D,W,a0,a3,(k1.trans (Kp.of a1)).set,KB,(F.1,J.1,L.1),by rw[IB F.2];show a9,by rw[IB J.2];show ab,by rw[IB L.2];show ac)
  rintro⟨rfl,D,W,a0,a3,k2,a6,⟨F,J,L⟩,a9,ab,ac⟩;show(λa2 j=>a2=[↑s,some (.int (n:Int)),some (.int (m:Int)),some (.int i)]/\∃N V Z,fW A.Ac A.Am s B D i m N V Z H bm j,?_,λde U=>?_)
  .rfl';intro N a4 a8 b2 O;show(N,a4,m,rfl,KB,bc,λV Z c0 cd ck b3 ad ah ap=>?_);let a1:=Kp.made a8 b2 O b3;let F:=Y k2 a6 a8;let J:=Y k2 a6 (gG a8 b2 O cd);let L:=Y k2 a6 (gG a8 b2 O ck);show(rfl,A.Ac,B,_,a1 _ _ a6,T.Ap,T.A6,by change 2 < 1000;decide,N,V,Z,a4,(Kp.of a1).set,KB,(F.1,J.1,L.1),by rw[IB F.2];show ad,by rw[IB J.2];show ah,by rw[IB L.2];show ap)
  rintro⟨rfl,N,V,Z,a4,k3,ca,⟨c1,c2,c3⟩,ad,ah,ap⟩;rfl';let ns:∀{c},H c=none->c≠s:=λh e=>by rw[e,bl] at h;cases h
  show(A.Ac,B,_,ca,T.Ap,T.Ck,by change 3 < 1000;decide,T.Ap,T.Bz,by change 4 < 1000;decide,T.Ap,T.Bm,by change 5 < 1000;decide,T.Ap,T.Br,by change 6 < 1000;decide,?_);let co:=(k2.trans k3).set (o:=.ins A.Ac B (tG i D N));show q _ (s,D,W,a0,N,V,Z) ((B,i,KB),⟨a3,?_⟩,⟨a4,?_⟩,?_,?_,?_,?_,bd,bc) rfl (λc bb=>?_) co
  .change uB U s _ D=_;rw[IB (ns F)];show k3.at a9 (ns F)
  .change uB U s _ N=_;rw[IB (ns c1)];show ad
  .change uB U s _ W=_;rw[IB (ns J)];show k3.at ab (ns J)
  .change uB U s _ a0=_;rw[IB (ns L)];show k3.at ac (ns L)
  .change uB U s _ V=_;rw[IB (ns c2)];show ah
  .change uB U s _ Z=_;rw[IB (ns c3)];show ap
  .simp only[Sn.all,iA,xA,dB] at bb;let rfl||rfl||rfl||rfl||rfl||rfl:=bb<;>assumption
def gW (C s dx ra:Addr) (n:Nat) (H G:Hp):Prop:=∃fa,Kp [s] H G/\G s>(.ins C dx (wB "found" (.ref fa) (wB "rows" (.ref ra) [])))/\G ra>(nn n)
def VJ (C:Addr):Sp:=λvs H Q ο=>∃(s dx:Addr) (n:Nat),vs=[.ref s,.int n]/\H s>(.ins C dx [])/\n<=64/\∀ra fa H',H ra=none->Kp [s] H H'->H' s>(.ins C dx (bN ra fa))->H' ra>(nn n)->Q .non H'
theorem gN (T:QB K mg A):kC P w K mg base "Book" A.At 1 ["self","many"] [] (VJ A.At):=by
 show T.M1.have yc (λvs H Q E N=>?_) ?_
 .let(s,B,n,rfl,_):=N;rfl
 .intro f ab a8 ah s H vs Q E ad N;let(s,B,n,rfl,Z,ac,q):=N;show(_,(OB (qC (oB 0) (lC IH (AD (qB oE AB)) (oB 1)) rfl)
   (ID (qC (oB 0) mJ rfl)
   (EB (qC (oB 0) HB rfl)))),?_)
  unfold rRep;rfl';intro D a4;let O:=wC (o:=.lst [V.non]) (ZB (H:=H)) a4;show([.non],rfl,⋯,⋯,by change 1 * n<=16777216;omega,λj W=>?_);rw[QA,aN];let Y:=GL O W;let U:=wC (o:=nn n) O W;let L:s≠j:=NC Z Y;show(A.At,B,[],U _ _ Z,T.Ch,T.Ff,by decide,?_);let k2:Kp [s] H (uB (uB (uB H D (.lst [V.non])) j (nn n)) s (.ins A.At B (wB "rows" (.ref j) []))):=(Kp.of U).set;let a1:uB (uB (uB H D (.lst [V.non])) j (nn n)) s (.ins A.At B (wB "rows" (.ref j) [])) s>(.ins A.At B (wB "rows" (.ref j) [])):=KB;let a5:uB (uB (uB H D (.lst [V.non])) j (nn n)) s (.ins A.At B (wB "rows" (.ref j) [])) j>(nn n):=by rw[IB L.symm,KB]
  generalize uB (uB (uB H D (.lst [V.non])) j (nn n)) s (.ins A.At B (wB "rows" (.ref j) []))=G at *;show(λa7 a0=>a7=[↑s,some (.int (n:Int))]/\gW A.At s B j n H a0,?_,λap a9=>?_)
  .rfl';intro J a3;let F:=wC (o:=.dK []) (ZB (H:=G)) a3;show(A.At,B,_,F _ _ a1,T.Ch,T.Lf,by change 1 < 1000;decide,J,(k2.trans (Kp.of F)).set,KB,by rw[IB L.symm];show F _ _ a5)
  rintro⟨rfl,J,k3,a2,a6⟩;rfl';show(A.At,B,_,a2,T.Ch,T.L7,by change 2 < 1000;decide,q j J _ Y k3.set KB (by rw[IB L.symm];show a6))
theorem iW {X:Cx} {e:Expr}:PE X e (λο ο ο=>False):=λο ο ο ο ο ο h=>h.elim
theorem YY {n i:Nat} {x:V} (h:(List.replicate n V.non)[i]?>x):x=.non:=by
 rw[List.getElem?_replicate] at h
 split at h
 .show (lA h).symm
 .cases h
def eI (C:Addr):Sp:=λvs H Q ο=>∃(p dx ly tw:Addr) (n:Nat),vs=[.ref p]/\H p>(.ins C dx (sG ly tw))/\H ly>(nn n)/\n<=64/\∀H',vB H H'->Q (.int 0) H'
theorem jW (T:QB K mg A):zB P w K mg base A.Am "live_count" 1 ["self"] [] (eI A.Am):=by
 show T.Fg.have qd (λvs H Q E L=>?_) ?_
 .let(Z,U,N,a0,n,rfl,_):=L;rfl
 .intro f a3 a2 a6 s H vs Q E a5 L;let(Z,U,N,a0,n,rfl,h1,h2,a4,q):=L;show(_,(EB (PB (kD yL rfl T.Gw PySem.boot_len (qB (WT rfl (eM (SB (oB 0) rfl)) (x:="sheet") (fs:=[]) (ix:=[]) rfl rfl (λο ο ο ο ο ο=>(GE (i:=0) (show (["sheet"]:!Str).Nodup by decide+kernel) rfl (Or.inl rfl))) (λο ο ο ο ο ο=>(xJ (rD uT (oB 0) oE (FB _)))) (λο ο ο ο ο ο=>(oB 0))) AB)))),?_);rfl';simp only[h1];rfl';show(T.Bc,T.Bb,_,rS,N,rfl,⟨_,RB.of h2⟩,λO W=>VT (xs:=List.replicate n V.non) (λi B D j=>∃v,D=[v]/\vB H j/\j O>(.lst B)/\B=[]) (_,rfl,wC ZB W,KB,rfl) (λi B D j _ zz=>by let(_,zz):=zz;show RB.of (zz.2.1 _ _ h2)) (λi v B D j Y=>?_) (λB D j=>?_))
  .rintro⟨a1,rfl,J,F,rfl⟩;obtain rfl:=YY Y;rfl';show VB ⟨J,F⟩
  .rintro⟨a1,rfl,J,F,rfl⟩;show(_,.inl (_,RB.of F,rfl),q _ J)
def fI (C S:Addr):Sp:=λvs H Q ο=>∃(z:Sn) (n m:Nat),vs=[.ref z.p]/\dC C S H z n m/\∀H',vB H H'->Q (.int 0) H'
theorem kW (T:QB K mg A):zB P w K mg base A.Ac "live_sheets" 2 ["self"] [] (fI A.Ac A.Am):=by
 let F:=@jW P w K mg base A T;show T.Db.have ud (λvs H Q E j=>?_) ?_
 .let(j,n,m,rfl,_):=j;rfl
 .intro f Z V a0 s H vs Q E N j;let(j,n,m,rfl,B,q):=j;let(O,i,h1):=B.me;let(J,h2):=B.fr;let(L,h3):=B.sl;show(_,(EB (PB (lC CH (WC (SB (oB 0) rfl) T.Bc F (-N) JB) (WC (SB (oB 0) rfl) T.Bc F (-N) JB)))),?_);unfold eI;rfl';simp only[h1];rfl';show(T.Ap,T.Bl,_,TY,j.fp,rfl,J,_,h2,SY ∅,j.fp,rfl,J,j.ly,j.tw,h2,n,B.l1,B.len.1,λW D=>?_);show(_,O,_,D _ _ h1,T.Ap,T.A6,_,sS,j.sq,rfl,L,_,D _ _ h3,SY ∅,j.sq,rfl,L,j.ls,j.ts,D _ _ h3,m,D _ _ B.l3,B.len.2,λY U=>?_);show q _ (D.trans U)
def ZY (C S:Addr):Sp:=λvs H Q ο=>∃(z:Sn) (n m:Nat),vs=[.ref z.p]/\dC C S H z n m/\Q (.int 0) H
theorem iN (T:QB K mg A):zB P w K mg base A.Ac "hand_at" 1 ["self"] [] (ZY A.Ac A.Am):=by
 show T.Ie.have vd (λvs H Q E j=>?_) ?_
 .let(j,n,m,rfl,_):=j;rfl
 .intro f J F N s H vs Q E L j;let(j,n,m,rfl,D,q):=j;let(B,i,h1):=D.me;show(_,(EB (PB (SB (oB 0) rfl))),?_);rfl';show(_,B,_,h1,T.Ap,T.Ck,_,tf,q)
def aZ (C S:Addr):Sp:=λvs H Q ο=>∃(z:Sn) (n m:Nat),vs=[.ref z.p]/\dC C S H z n m/\∀t,H t=none->Q (.ref t) (uB H t (.tup [.int 0,.int 0,.int 0]))
theorem jN (T:QB K mg A):zB P w K mg base A.Ac "moved" 1 ["self"] [] (aZ A.Ac A.Am):=by
 show T.Ko.have yd (λvs H Q E j=>?_) ?_
 .let(j,n,m,rfl,_):=j;rfl
 .intro f J F N s H vs Q E L j;let(j,n,m,rfl,D,q):=j;let(B,i,h1):=D.me;show(_,(EB (PB (QF (qB (SB (oB 0) rfl) (qB (SB (oB 0) rfl) (qB (SB (oB 0) rfl) AB)))))),?_);rfl';show(_,B,_,h1,T.Ap,T.Bz,_,uf,_,B,_,h1,T.Ap,T.Bm,_,vf,_,B,_,h1,T.Ap,T.Br,_,wf,q)
def gI (C S:Addr):Sp:=λvs H Q ο=>∃(z:Sn) (n m:Nat),vs=[.ref z.p]/\dC C S H z n m/\∀H' l,vB H H'->H' l>(nn n)->Q (.ref l) H'
theorem lW (T:QB K mg A):zB P w K mg base A.Ac "told_frames" 1 ["self"] [] (gI A.Ac A.Am):=by
 show T.Dc.have mS (λvs H Q E j=>?_) ?_
 .let(j,n,m,rfl,_):=j;rfl
 .intro f ac a9 b3 s H vs Q E ap j;let(j,n,m,rfl,F,q):=j;let(a5,b2,h1):=F.me;let(a4,a6):=F.fr;let a0:=F.l1;show(_,(OB (OC (i:=1) mS.nd rfl (Or.inl rfl) (AD AB))
   (OB (CL SA rfl (Ua rfl T.Mw (qB (SB (SB (oB 0) rfl) rfl) AB)) (UW (n:=2) rfl (WI (GE (i:=2) mS.nd rfl (Or.inl rfl)) (WI (GE (i:=3) mS.nd rfl (Or.inl rfl)) pT))) (EB (BC (rD UR (oB 3) oE (FB _)) (EB (AF (HH PySem.F.plainAttrs_list PySem.F.slot_list_append PySem.F.type_list_append ET (oB 1) (qB oE AB)))) (EB mT))))
   (EB (PB (oB 1))))),?_)
  rfl';intro O a2;let D:=wC (o:=.lst []) (ZB (H:=H)) a2;let b1:=PySem.sizeLine_eq;let ah:=F.len.1;show(_,a5,_,D _ _ h1,T.Ap,T.Bl,_,TY,j.fp,rfl,_,a4,_,D _ _ a6,T.Bc,T.Bb,_,rS,j.ly,rfl,⟨_,RB.of (D _ _ a0)⟩,Va (xs:=List.replicate n V.non) (λi L B=>∃W Y,L=[↑j.p,↑O,W,Y]/\vB H B/\B O>(nn i)) (_,_,rfl,D,KB) (λi L B _ zz=>by let(_,_,zz):=zz;show RB.of (zz.2.1 _ _ a0)) (λi x U L B a1=>?_) (λL ab=>?_))
  .rintro⟨W,Y,rfl,N,J⟩ a7;let ad:i < n:=by have:=(FA.mp a1).1;rw[yA] at this;show this
   obtain rfl:=YY a1;let Z:=wC (o:=.tup [V.int i,.non]) (ZB (H:=B)) a7;let a8:uB B U (.tup [V.int i,.non]) U>(.tup [V.int i,.non]):=KB;rfl';generalize uB B U (.tup [V.int i,.non])=H2 at *;let a3:=Z _ _ J;show(_,ED.of a8,rfl,_,_,rfl,_,_,rfl,rfl,?_);rw[vA rfl];show(.inl (rfl,_,RB.of a3),_,a3,by rw[yA];omega,FL (N.trans Z) a2,by rw[<-List.replicate_succ'])
  .rintro⟨W,Y,rfl,N,J⟩;rfl';rw[yA] at J;show q _ O N J
def iI (C S:Addr):Sp:=λvs H Q ο=>∃(z:Sn) (n m j:Nat),vs=[.ref z.p,.int j]/\dC C S H z n m/\j < m/\Q .non H
theorem mW (T:QB K mg A):zB P w K mg base A.Ac "told_slot" 1 ["self","slot"] [] (iI A.Ac A.Am):=by
 show T.Fh.have ZU (λvs H Q E B=>?_) ?_
 .let(B,n,m,j,rfl,_):=B;rfl
 .intro f V U Z s H vs Q E Y B;let(B,n,m,j,rfl,D,N,q):=B;let(W,i,h1):=D.me;let(J,L):=D.sl;show(_,(OB (OC (i:=2) ZU.nd rfl (Or.inl rfl) (BD FE (SB (SB (oB 0) rfl) rfl) (oB 1) (λο ο=>rfl)))
   (ID (OC (i:=3) ZU.nd rfl (Or.inl rfl) (BD FE (SB (SB (oB 0) rfl) rfl) (oB 1) (λο ο=>rfl)))
   (OB (BC (rD uT (oB 2) oE (FB _)) (EB mT) AC)
   (OB (BC (rD uT (oB 3) oE (FB _)) (EB mT) AC)
   (EB (PB oE)))))),?_)
  rfl';simp only[h1];rfl';show(T.Ap,T.A6,_,sS,B.sq,rfl,_,J,_,L,T.Bc,T.Bb,_,rS,B.ls,rfl,_,RB.of D.l3,.non,XE (by rw[List.getElem?_replicate,vA N]),?_);show(λO F=>O=[↑B.p,some (.int (j:Int)),some .non,some .non]/\F=H,?_,λa0 F=>?_)
  .rfl';simp only[h1];rfl';show(T.Ap,T.A6,_,sS,B.sq,rfl,_,J,_,L,T.Bc,T.Cj,_,sf,B.ts,rfl,_,RB.of D.l4,.non,XE (by rw[List.getElem?_replicate,vA N]),rfl)
  rintro⟨rfl,rfl⟩;rfl';show VB (VB q)
def bZ (C S:Addr):Sp:=λvs H Q ο=>∃(z:Sn) (n m:Nat),vs=[.ref z.p]/\dC C S H z n m/\∀H' l,vB H H'->H' l>(nn m)->Q (.ref l) H'
theorem kN (T:QB K mg A):zB P w K mg base A.Ac "told_slots" 2 ["self"] [] (bZ A.Ac A.Am):=by
 let W:=@mW P w K mg base A T;show T.D9.have wd (λvs H Q E j=>?_) ?_
 .let(j,n,m,rfl,_):=j;rfl
 .intro f a5 a3 ab s H vs Q E a2 j;let(j,n,m,rfl,B,q):=j;let(Z,a9,h1):=B.me;let(Y,a0):=B.sl;show(_,(EB (PB (WT rfl (OR rfl T.Gx (qB (kD yL rfl T.Gw PySem.boot_len (qB (SB (SB (oB 0) rfl) rfl) AB)) AB)) (x:="slot") (fs:=["self"]) (ix:=[0]) rfl rfl (λο ο ο ο ο ο=>(GE (i:=0) (show (["slot","self"]:!Str).Nodup by decide+kernel) rfl (Or.inl rfl))) (λο ο ο ο ο ο=>fS) (λο ο ο ο ο ο=>(uD (oB 1) T.Ap W (-a2) FM (qB (oB 0) AB)))))),?_);unfold iI;rfl';simp only[h1];rfl';let a7:=B.len.2;let a8:=PySem.sizeLine_eq;let a1:(List.replicate m V.non).length=m:=yA;show(T.Ap,T.A6,_,sS,j.sq,rfl,_,Y,_,a0,T.Bc,T.Bb,_,rS,_,.inl (_,RB.of B.l3,rfl),⋯,⋯,λO U=>?_);show za (λi F N J=>∃v,N=[v,↑j.p]/\vB H J/\J O>(.lst F)/\F=List.replicate i V.non) (_,rfl,wC ZB U,KB,rfl) (λi F N J a6=>?_) (λF N a4=>?_)
  .rintro⟨v,rfl,D,L,rfl⟩;rfl';show(Z,_,D _ _ h1,IL ∅,j,rfl,n,m,i,⋯,B.same D,⋯,L,by rw[yA];omega,FL D U,by rw[<-List.replicate_succ'];rfl)
  .rintro⟨v,rfl,D,L,rfl⟩;show q _ O D ?_;rw[L,a1,QA]
def sp_to:Sp:=λvs H Q ο=>∃(tp:Addr) (v:V) (ah:V),vs=[.ref tp,v,ah]/\H tp>(.dK [])/\∀H' l,vB H H'->H' l>(.lst [])->Q (.ref l) H'
theorem nW (T:QB K mg A):RC P w K mg base "told_of" 1 ["level","levels","ahead"] [] sp_to:=by
 show T.N0.have GU (λvs H Q E O=>?_) ?_
 .let(D,v,U,rfl,_):=O;rfl
 .intro f ab a9 ap s H vs Q E ad O;let(D,v,U,rfl,h1,q):=O;show(_,(OB (OC (i:=3) GU.nd rfl (Or.inl rfl) (AD AB))
   (OB (CL SA rfl (eM (kD (pb rfl) rfl T.Hw PyProof.Rows.boot_sorted (qB (jb (oB 0)) AB))) (GE (i:=4) GU.nd rfl (Or.inl rfl)) TW)
   (EB (PB (oB 3))))),?_)
  rfl';intro j a7;let L:=wC (o:=.lst []) (ZB (H:=H)) a7;let a1:uB H j (.lst []) j>(.lst []):=KB;show([],L _ _ h1,λB a4=>?_);let N:=wC (o:=JD B D) (ZB (H:=uB H j (.lst []))) a4;show(D,rfl,[],N _ _ (L _ _ h1),[],rfl,by decide,λl ah a5 a6 ac=>?_);obtain rfl:=a6.eq_nil;let W:=wC (o:=.lst (([]:!Int).map V.int)) (ZB (H:=uB (uB H j (.lst [])) B (JD B D))) a5;let a2:=W _ _ (N _ _ a1);let Y:uB (uB (uB H j (.lst [])) B (JD B D)) l (.lst (([]:!Int).map V.int)) l>(.lst []):=KB;let a8:=(L.trans N).trans W;generalize uB (uB (uB H j (.lst [])) B (JD B D)) l (.lst (([]:!Int).map V.int))=H3 at *;show⟨⟨_,RB.of Y⟩,HX (xs:=[]) (λi J F=>∃Z a0,J=[↑D,some v,some U,↑j,Z,a0]/\F=H3) (_,_,rfl,rfl) (λi J F _ zz=>by let(_,_,zz):=zz;show by rw[zz.2];show RB.of Y) (λi x J F a3=>by cases a3) (λJ F=>?_)⟩;rintro⟨Z,a0,rfl,rfl⟩;rfl';show q _ j a8 a2
def sp_co:Sp:=λvs H Q ο=>∃(tp:Addr),vs=[.ref tp,.int 2]/\H tp>(.dK [])/\∀H',vB H H'->Q (.int 1) H'
theorem oW (T:QB K mg A):RC P w K mg base "count_of" 1 ["level","levels"] [] sp_co:=by
 show T.Ni.have Rc (λvs H Q E D=>?_) ?_
 .let(j,rfl,_):=D;rfl
 .intro f a9 a8 ac s H vs Q E ab D;let(j,rfl,h1,q):=D;show(_,(OB (BC (rD CF (oB 1) HB (FB _)) (EB (PB HB)) AC)
   (EB (fb (PB (lC CH HB (kD (Wa rfl) rfl T.Qi ∅ (qB (WT rfl (ub (qb (oB 0))) (x:="lower") (fs:=["levels"]) (ix:=[1]) rfl rfl (λο ο ο ο ο ο=>(GE (i:=0) (show (["lower","levels"]:!Str).Nodup by decide+kernel) rfl (Or.inl rfl))) (λο ο ο ο ο ο=>fS) (λο ο ο ο ο ο=>iW)) AB))))))),?_)
  rfl';rw[kA (by decide)];show(j,λo u D=>?_,?_)
  .let D:H j>(.frz o u):=D;rw[h1] at D;cases D
  unfold YF;rfl';show([],h1,λv a0=>(j,rfl,[],(wC ZB a0) _ _ h1,λo J N=>?_));let a2:=wC (o:=KD v j) (ZB (H:=H)) a0;let Z:∀B u,B≠j->H B>u->uB (uB H v (KD v j)) j (.frz o (.dK [])) B>u:=λB u U h=>by rw[IB U];show a2 _ _ h
  let Y:uB (uB H v (KD v j)) j (.frz o (.dK [])) j>(.frz o (.dK [])):=KB;generalize uB (uB H v (KD v j)) j (.frz o (.dK []))=H2 at *;let W:J≠j:=λD=>by rw[D,Y] at N;cases N
  let a4:H J=none:=by
   cases e:H J with
   |none=>rfl
   |some u=>rw[Z J u W e] at N;cases N
  show vb (λi L O F=>∃a1,O=[a1,some (.int 2)]/\(∀B u,B≠j->H B>u->F B>u)/\F j>(.frz o (.dK []))/\L=([]:!Int).map V.int/\F J>(.lst L)) (_,rfl,λB u U h=>?_,?_,rfl,KB) (λi L O F _ zz=>by let(_,zz):=zz;show zz.2.2.1) (λi k x L O F a6=>by cases a6) (λL O F=>?_)
  .rw[IB (NC h a4)];show Z B u U h
  .rw[IB (Ne.symm W)];show Y
  rintro⟨a1,rfl,a7,a5,rfl,a3⟩;show(_,RB.of a3,?_);rw[cb a5];show q _ λB u h=>?_;by_cases c:B=j
  .rw[c,KB,<-h,c];show h1.symm
  .rw[IB c];show a7 B u c h
def WJ (C:Addr):Sp:=λvs H Q ο=>∃(s dx sh:Addr),vs=[.ref s,.ref sh]/\H s>(.ins C dx [])/\∀tp H',H tp=none->Kp [s] H H'->H' s>(.ins C dx (hG sh tp))->H' tp>(.dK [])->Q .non H'
theorem lN (T:QB K mg A):kC P w K mg base "Table" A.Aq 1 ["self","shape"] [] (WJ A.Aq):=by
 show T.L8.have Sc (λvs H Q E j=>?_) ?_
 .let(s,L,U,rfl,_):=j;rfl
 .intro f W V Z s H vs Q E Y j;let(s,L,U,rfl,O,q):=j;show(_,(OB (qC (oB 0) (oB 1) rfl)
   (EB (qC (oB 0) mJ rfl))),?_)
  rfl';simp only[O];rfl';show(T.Bh,T.Bu,λJ D=>?_);let F:J≠s:=λj=>by rw[j,KB] at D;cases D
  let N:H J=none:=by rw[IB F] at D;show D
  show(_,L,_,by rw[IB F.symm,KB],T.Bh,T.B8,by change 1 < 1000;decide,?_);show q J _ N (λc o h B=>?_) KB (by rw[IB F,KB]);let B:c≠s:=λj=>B (AA.mpr j);rw[IB B,IB (NC h N),IB B];show h
def mF (C:Addr) (H:Hp) (sh:Addr) (v:V):Prop:=∃t dx tp,v=.ref t/\H t>(.ins C dx (hG sh tp))/\H tp>(.dK [])
theorem mF.same {C q:Addr} {H j:Hp} {v:V} (h:mF C H q v) (s:vB H j):mF C j q v:=let ⟨t,dx,tp,e,h1,h2⟩:=h;(t,dx,tp,e,s _ _ h1,s _ _ h2)
def oC (C:Addr) (H:Hp) (sh:Addr):Prop:=∃dx f g,H sh>(.ins C dx (dG 2 f g))
theorem oC.same {C q:Addr} {H j:Hp} (h:oC C H q) (s:vB H j):oC C j q:=let ⟨dx,f,g,e⟩:=h;(dx,f,g,s _ _ e)
theorem oC.ne {C q j s B:Addr} {H:Hp} (h:oC C H j) (J:H s>(.ins q B [])):j≠s:=by
 let(d,D,F,e):=h;show AG e J (λL=>?_);let h:(dG 2 D F).lookup ("pages":Str)=([]:!(Str×V)).lookup ("pages":Str):=by rw[(HO.ins.inj L).2.2]
 rw[bf] at h;cases h
theorem oC.kp {C j s:Addr} {H q:Hp} (h:oC C H j) (k:Kp [s] H q) (n:j≠s):oC C q j:=let ⟨dx,f,g,e⟩:=h;(dx,f,g,k.at e n)
def cZ (C S:Addr):Sp:=λvs H Q ο=>∃(t sh:Addr),vs=[.ref t]/\mF C H sh (.ref t)/\oC S H sh/\∀H' l,vB H H'->H' l>(.lst [])->Q (.ref l) H'
theorem nN (T:QB K mg A):zB P w K mg base A.Aq "told" 2 ["self"] [] (cZ A.Aq A.Al):=by
 let Z:=@nW P w K mg base A T;show T.L9.have Tc (λvs H Q E F=>?_) ?_
 .let(t,U,rfl,_):=F;rfl
 .intro f ab a9 ap s H vs Q E a5 F;let(t,U,rfl,(t',N,a8,e,h1,h2),(a0,ad,ah,h3),q):=F;cases e;show(_,(EB (PB (aY rfl (eM (CC Z (-a5) JB (qB (SB (oB 0) rfl) (qB (SB (SB (oB 0) rfl) rfl) (qB (AD AB) AB))))) (x:="steps") (xs:=["steps","entry"]) (fs:=["self"]) (ix:=[0]) rfl rfl (λο ο ο ο ο ο=>(bY (K:=K) (n:=2) rfl rfl (WI (GE (i:=0) (show (["steps","entry","self"]:!Str).Nodup by decide+kernel) rfl (Or.inl rfl)) (WI (GE (i:=1) (show (["steps","entry","self"]:!Str).Nodup by decide+kernel) rfl (Or.inl rfl)) pT)))) (λο ο ο ο ο ο=>fS) (λο ο ο ο ο ο=>iW)))),?_);unfold sp_to;rfl';show(_,N,_,h1,T.Bh,T.B8,_,WY,_,N,_,h1,T.Bh,T.Bu,_,VY,U,rfl,_,a0,_,h3,T.Bv,T.Bg,_,GY,λac a3=>?_);let L:=wC (o:=.lst []) (ZB (H:=H)) a3;show(a8,rfl,L _ _ h2,λY l a6 O=>?_);show⟨⟨_,RB.of O⟩,λJ a1=>VT (xs:=[]) (λi B D j=>∃V W,D=[V,W,↑t]/\vB Y j/\j J>(.lst B)/\B=[]) (_,_,rfl,wC ZB a1,KB,rfl) (λi B D j _ zz=>by let(_,_,zz):=zz;show RB.of (zz.2.1 _ _ O)) (λi x B D j a4=>by cases a4) (λB D j=>?_)⟩;rintro⟨V,W,rfl,a7,a2,rfl⟩;show q _ J (L.trans (a6.trans a7)) a2
def dZ (C S:Addr):Sp:=λvs H Q ο=>∃(t sh:Addr),vs=[.ref t]/\mF C H sh (.ref t)/\oC S H sh/\∀H',vB H H'->Q (.int 1) H'
theorem oN (T:QB K mg A):zB P w K mg base A.Aq "table_count" 2 ["self"] [] (dZ A.Aq A.Al):=by
 let F:=@oW P w K mg base A T;show T.D3.have Uc (λvs H Q E j=>?_) ?_
 .let(t,D,rfl,_):=j;rfl
 .intro f U O Y s H vs Q E L j;let(t,D,rfl,(t',B,N,e,h1,h2),(J,V,W,h3),q):=j;cases e;show(_,(EB (PB (CC F (-L) JB (qB (SB (oB 0) rfl) (qB (SB (SB (oB 0) rfl) rfl) AB))))),?_);unfold sp_co;rfl';show(_,B,_,h1,T.Bh,T.B8,_,WY,_,B,_,h1,T.Bh,T.Bu,_,VY,D,rfl,_,J,_,h3,T.Bv,T.Bg,_,GY,N,rfl,rfl,h2,q)
def AE (C:Addr) (H:Hp) (b:Addr) (k:Nat):Prop:=∃dx ra fa,H b>(.ins C dx (bN ra fa))/\H ra>(nn k)/\k<=64
theorem AE.same {C q:Addr} {H j:Hp} {k:Nat} (h:AE C H q k) (s:vB H j):AE C j q k:=let ⟨dx,ra,fa,h1,h2,h3⟩:=h;(dx,ra,fa,s _ _ h1,s _ _ h2,h3)
def eZ (C:Addr):Sp:=λvs H Q ο=>∃(b:Addr) (k:Nat),vs=[.ref b]/\AE C H b k/\∀H' l,vB H H'->H' l>(nn k)->Q (.ref l) H'
theorem pN (T:QB K mg A):zB P w K mg base A.At "told" 1 ["self"] [] (eZ A.At):=by
 show T.M2.have zc (λvs H Q E j=>?_) ?_
 .let(B,k,rfl,_):=j;rfl
 .intro f N L V s H vs Q E U j;let(B,k,rfl,(D,J,O,h1,h2,h3),q):=j;show(_,(EB (PB (zT DT rfl T.Fc XA (qB (SB (oB 0) rfl) AB)))),?_);rfl';show(_,D,_,h1,T.Ch,T.Ff,_,xf,J,rfl,_,.inl (RB.of h2),λl F=>q _ l (wC ZB F) KB)
set_option genInjectivity false in
structure En where
 p:Addr
 td:Addr
 bd:Addr
 bk:Addr
structure vC (A:XB) (H:Hp) (e:En) (sh:Addr) (k c:Nat) (tt bb:Kvs):Prop where
 me:∃dx,H e.p>(.ins A.Ae dx (SJ sh e.td e.bd e.bk))
 t:H e.td>(.dK tt)
 b:H e.bd>(.dK bb)
 bk:AE A.At H e.bk k
 tb:∀kv∈tt,mF A.Aq H sh kv.2
 bs:∀kv∈bb,∃l,kv.2=.ref l/\H l>(nn c)
 ne:e.td≠e.bd
theorem vC.same {A:XB} {H B:Hp} {e:En} {F:Addr} {k c:Nat} {J D:Kvs} (h:vC A H e F k c J D) (s:vB H B):vC A B e F k c J D:=
 (let ⟨dx,e⟩:=h.me;⟨dx,s _ _ e⟩,s _ _ h.t,s _ _ h.b,h.bk.same s,λq j=>(h.tb q j).same s,λq j=>let ⟨l,e,h1⟩:=h.bs q j;(l,e,s _ _ h1),h.ne)
theorem pW {kvs:Kvs} {k:Key} (h:k∈WB kvs):∃v,aC kvs k>v/\(k,v)∈kvs:=by
 let(v,j):=JY h;show(v,j,KY j)
def XJ (A:XB):Sp:=λvs H Q ο=>∃(e:En) (sh:Addr) (k c:Nat) (tt bb:Kvs) (n:Int),vs=[.ref e.p,.int n]/\vC A H e sh k c tt bb/\oC A.Al H sh/\inl n∈WB tt/\∀H' l,vB H H'->H' l>(.lst [])->Q (.ref l) H'
theorem qN (T:QB K mg A):zB P w K mg base A.Ae "told_task" 3 ["self","task"] [] (XJ A):=by
 let U:=@nN P w K mg base A T;show T.D6.have Yc (λvs H Q E D=>?_) ?_
 .let(e,N,k,c,O,V,n,rfl,_):=D;rfl
 .intro f a5 a4 a6 s H vs Q E L D;let(e,N,k,c,O,V,n,rfl,B,a0,Z,q):=D;let(W,h1):=B.me;let(v,a1,a2):=pW Z;let(t,F,a3,j,J,Y):=B.tb _ a2;let j:v=.ref t:=j;subst j;show(_,(EB (PB (WC (WR (SF L) (SB (oB 0) rfl) (oB 1) (λο ο=>rfl)) T.Bh U (-L) JB))),?_);unfold sE cZ;rfl';show(_,W,_,h1,T.Au,T.A8,_,cW,e.td,rfl,_,.inl (O,inl n,.inl B.t,rfl,a1.symm),t,rfl,F,_,J,XY ∅,t,rfl,N,(t,F,a3,rfl,J,Y),a0,q)
def YJ (A:XB):Sp:=λvs H Q ο=>∃(e:En) (sh:Addr) (k c:Nat) (tt bb:Kvs) (n:Int),vs=[.ref e.p,.int n]/\vC A H e sh k c tt bb/\oC A.Al H sh/\inl n∈WB tt/\∀H',vB H H'->Q (.int 1) H'
theorem rN (T:QB K mg A):zB P w K mg base A.Ae "table_count" 3 ["self","task"] [] (YJ A):=by
 let U:=@oN P w K mg base A T;show T.Ci.have ed (λvs H Q E D=>?_) ?_
 .let(e,N,k,c,O,V,n,rfl,_):=D;rfl
 .intro f a5 a4 a6 s H vs Q E L D;let(e,N,k,c,O,V,n,rfl,B,a0,Z,q):=D;let(W,h1):=B.me;let(v,a1,a2):=pW Z;let(t,F,a3,j,J,Y):=B.tb _ a2;let j:v=.ref t:=j;subst j;show(_,(EB (PB (WC (WR (SF L) (SB (oB 0) rfl) (oB 1) (λο ο=>rfl)) T.Bh U (-L) JB))),?_);unfold sE dZ;rfl';show(_,W,_,h1,T.Au,T.A8,_,cW,e.td,rfl,_,.inl (O,inl n,.inl B.t,rfl,a1.symm),t,rfl,F,_,J,XY ∅,t,rfl,N,(t,F,a3,rfl,J,Y),a0,q)
def ZJ (A:XB):Sp:=λvs H Q ο=>∃(e:En) (sh:Addr) (k c:Nat) (tt bb:Kvs) (n:Int),vs=[.ref e.p,.int n]/\vC A H e sh k c tt bb/\inl n∈WB bb/\∀H' l,vB H H'->H' l>(nn c)->Q (.ref l) H'
theorem sN (T:QB K mg A):zB P w K mg base A.Ae "told_bank" 1 ["self","bank"] [] (ZJ A):=by
 show T.D7.have Zc (λvs H Q E D=>?_) ?_
 .let(e,Y,k,c,Z,F,n,rfl,_):=D;rfl
 .intro f a1 a0 a2 s H vs Q E U D;let(e,Y,k,c,Z,F,n,rfl,B,O,q):=D;let(J,h1):=B.me;let(v,V,W):=pW O;let(l,j,L):=B.bs _ W;let j:v=.ref l:=j;subst j;show(_,(EB (PB (zT DT rfl T.Fc XA (qB (WR (SF U) (SB (oB 0) rfl) (oB 1) (λο ο=>rfl)) AB)))),?_);unfold sE;rfl';show(_,J,_,h1,T.Au,T.Bk,_,UY,e.bd,rfl,_,.inl (F,inl n,.inl B.b,rfl,V.symm),l,rfl,_,.inl (RB.of L),λl N=>q _ l (wC ZB N) KB)
def aK (A:XB):Sp:=λvs H Q ο=>∃(e:En) (sh:Addr) (k c:Nat) (tt bb:Kvs),vs=[.ref e.p]/\vC A H e sh k c tt bb/\∀H' l,vB H H'->H' l>(nn k)->Q (.ref l) H'
theorem tN (T:QB K mg A):zB P w K mg base A.Ae "told_book" 2 ["self"] [] (aK A):=by
 let D:=@pN P w K mg base A T;show T.D8.have jd (λvs H Q E B=>?_) ?_
 .let(e,U,k,c,V,F,rfl,_):=B;rfl
 .intro f Y W a2 s H vs Q E O B;let(e,U,k,c,V,F,rfl,j,q):=B;let(J,h1):=j.me;let(L,a3,Z,N,a0,a1):=id j.bk;show(_,(EB (PB (WC (SB (oB 0) rfl) T.Ch D (-O) JB))),?_);unfold eZ;rfl';show(_,J,_,h1,T.Au,T.Cc,_,zf,e.bk,rfl,L,_,N,RJ ∅,e.bk,rfl,k,j.bk,q)
def bK (A:XB):Sp:=λvs H Q ο=>∃(e:En) (sh:Addr) (k c:Nat) (bb:Kvs) (n:Int),vs=[.ref e.p,.int n]/\vC A H e sh k c [] bb/\∀v H',vC A H' e sh k c [(inl n,v)] bb->Kd e.td H H'->(∀t dx tp,v=.ref t->H' t>(.ins A.Aq dx (hG sh tp))->H tp=none)->Q .non H'
theorem uN (T:QB K mg A):zB P w K mg base A.Ae "open_task" 3 ["self","task"] [] (bK A):=by
 show T.D4.have Wc (λvs H Q E j=>?_) ?_
 .let(e,a2,k,c,ap,n,rfl,_):=j;rfl
 .intro f c0 bm c1 s H vs Q E a7 j;let(e,a2,k,c,ap,n,rfl,F,q):=j;let(b3,h1):=F.me;let bd:=PySem.sizeLine_eq;show(_,(EB (YR (SF a7) (SB (oB 0) rfl) (oB 1) (VF (lN T) (-a7) JB (qB (SB (oB 0) rfl) AB)) rfl)),?_);unfold tE;rfl';show(_,b3,_,h1,T.Au,T.B9,_,yf,λx O a1 W Z=>(x,O,a2,rfl,KB,λa3 D a0 k1 a5 bc=>?_));let a9:=Kp.made a1 W Z k1;let B:=F.same a9;let(a4,a6):=B.me;show(rfl,_,a4,_,a6,T.Au,T.A8,_,cW,e.td,rfl,_,.inl ([],inl n,B.t,rfl,by rw[bd];decide,rfl),?_);let L:Kd e.td D (uB D e.td (.dK [(inl n,.ref x)])):=OJ;let keep:∀{a:Addr} {o:HO},D a>o->(∀kvs,o≠.dK kvs)->uB D e.td (.dK [(inl n,.ref x)]) a>o:=λh n=>L _ _ h (λj=>by rw[j,B.t] at h;show n _ (lA h).symm);let be:a3≠e.td:=λj=>by rw[j] at a0;have:=NG (o:=.ins A.Aq O []) a1 W Z _ _ F.t;rw[a0] at this;cases this
  show q (.ref x) _ (⟨a4,keep a6 (λο j=>nomatch j)⟩,KB,L _ _ B.b F.ne.symm,?_,λa8 Y=>?_,λa8 Y=>?_,F.ne) ((Kd.of a9).trans L) (λt b2 ab b5 J=>?_);rotate_right
  .cases b5;let J:uB D e.td (.dK [(inl n,.ref x)]) x>(.ins A.Aq b2 (hG a2 ab)):=J;rw[keep a5 (λο j=>nomatch j)] at J;let U:=congrArg (λl:!(Str×V)=>l.lookup ("top":Str)) (HO.ins.inj (lA J)).2.2;let U:some (V.ref a3)>(V.ref ab):=U;cases U;show gG (C:=A.Aq) a1 W Z a0
  .let(b1,bl,bb,N,ad,ah):=B.bk;show(b1,bl,bb,keep N (λο j=>nomatch j),keep ad (λο j=>nomatch j),ah)
  .rw[AA.mp Y];show(x,O,a3,rfl,keep a5 (λο j=>nomatch j),L _ _ bc be)
  .let(l,b4,N):=B.bs a8 Y;show(l,b4,keep N (λο j=>nomatch j))
def cK (A:XB):Sp:=λvs H Q ο=>∃(e:En) (sh:Addr) (k c0 c:Nat) (tt:Kvs) (n:Int),vs=[.ref e.p,.int n,.int c]/\vC A H e sh k c0 tt []/\c<=64/\(∀kv∈tt,∀t dx tp,kv.2=.ref t->H t>(.ins A.Aq dx (hG sh tp))->tp≠e.bd)/\∀v H',vC A H' e sh k c tt [(inl n,v)]->Kd e.bd H H'->Q .non H'
theorem vN (T:QB K mg A):zB P w K mg base A.Ae "open_bank" 1 ["self","bank","many"] [] (cK A):=by
 show T.D5.have Xc (λvs H Q E j=>?_) ?_
 .let(e,b3,k,a6,c,b4,n,rfl,_):=j;rfl
 .intro f bb b5 be s H vs Q E ap j;let(e,b3,k,a6,c,b4,n,rfl,D,bd,ab,q):=j;let(bc,h1):=D.me;let b1:=PySem.sizeLine_eq;show(_,(EB (YR (SF ap) (SB (oB 0) rfl) (oB 1) (lC IH (AD (qB oE AB)) (oB 2)) rfl)),?_);unfold tE rRep;rfl';intro a2 ac;let O:=wC (o:=.lst [V.non]) (ZB (H:=H)) ac;show([.non],rfl,⋯,⋯,by change 1 * c<=16777216;omega,λB ad=>?_);rw[QA,aN];let N:=wC (o:=nn c) O ad;let ah:uB (uB H a2 (.lst [V.non])) B (nn c) B>(nn c):=KB;generalize uB (uB H a2 (.lst [V.non])) B (nn c)=H1 at *;let F:=D.same N;let(Y,a1):=F.me;show(_,Y,_,a1,T.Au,T.Bk,_,UY,e.bd,rfl,_,.inl ([],inl n,F.b,rfl,by rw[b1];decide,rfl),?_);let L:Kd e.bd H1 (uB H1 e.bd (.dK [(inl n,.ref B)])):=OJ;let keep:∀{a:Addr} {o:HO},H1 a>o->(∀kvs,o≠.dK kvs)->uB H1 e.bd (.dK [(inl n,.ref B)]) a>o:=λh n=>L _ _ h (λj=>by rw[j,F.b] at h;show n _ (lA h).symm);show q (.ref B) _ (⟨Y,keep a1 (λο j=>nomatch j)⟩,L _ _ F.t D.ne,KB,?_,λU J=>?_,λU J=>?_,D.ne) ((Kd.of N).trans L)
  .let(a7,b2,a8,O,a4,a5):=F.bk;show(a7,b2,a8,keep O (λο j=>nomatch j),keep a4 (λο j=>nomatch j),a5)
  .let(t,W,a3,Z,a0,a9):=D.tb U J;show(t,W,a3,Z,keep (N _ _ a0) (λο j=>nomatch j),L _ _ (N _ _ a9) (ab U J t W a3 Z a0))
  .rw[AA.mp J];show(B,rfl,keep ah (λο j=>nomatch j))
theorem dF {s:Addr} {H G:Hp} {o:HO} {c:Addr} (k:Kp [s] H G) (g:G s>o) (h:G c=none):H c=none/\c≠s:=by
 let n:c≠s:=λe=>by rw[e,g] at h;cases h
 show⟨?_,n⟩;cases e:H c with
 |none=>rfl
 |some o=>have:=k.at e n;rw[h] at this;cases this
def qW (C s dx sh:Addr) (H G:Hp):Prop:=Kp [s] H G/\G s>(.ins C dx (wB "shape" (.ref sh) []))
def rW (C s dx sh:Addr) (H G:Hp):Prop:=∃td,Kp [s] H G/\G s>(.ins C dx (wB "tables" (.ref td) (wB "shape" (.ref sh) [])))/\H td=none/\G td>(.dK [])
def sW (C s dx sh td:Addr) (H G:Hp):Prop:=∃bd,Kp [s] H G/\G s>(.ins C dx (wB "banks" (.ref bd) (wB "tables" (.ref td) (wB "shape" (.ref sh) []))))/\H bd=none/\G bd>(.dK [])/\td≠bd/\G td>(.dK [])
def eK (A:XB):Sp:=λvs H Q ο=>∃(s dx sh:Addr) (k:Nat),vs=[.ref s,.ref sh,.int k]/\H s>(.ins A.Ae dx [])/\k<=64/\∀H' e,e.p=s->vC A H' e sh k 0 [] []->H e.td=none->H e.bd=none->H e.bk=none->Kp [s] H H'->Q .non H'
theorem wN (T:QB K mg A):kC P w K mg base "Entries" A.Ae 3 ["self","shape","places"] [] (eK A):=by
 show T.Kl.have Vc (λvs H Q E B=>?_) ?_
 .let(s,j,J,k,rfl,_):=B;rfl
 .intro f ca c2 cd s H vs Q E bb B;let(s,j,J,k,rfl,Y,a9,q):=B;show(_,(ID (qC (oB 0) (oB 1) rfl)
   (ID (qC (oB 0) mJ rfl)
   (ID (qC (oB 0) mJ rfl)
   (EB (qC (oB 0) (VF (gN T) (-bb) JB (qB (oB 2) AB)) rfl))))),?_)
  show(λW O=>W=[↑s,↑J,some (.int (k:Int))]/\qW A.Ae s j J H O,?_,λch ad=>?_)
  .rfl';show(A.Ae,j,[],Y,T.Au,T.B9,by decide,(Kp.of ZB).set,KB)
  rintro⟨rfl,k1,a6⟩;show(λW O=>W=[↑s,↑J,some (.int (k:Int))]/\rW A.Ae s j J H O,?_,λck ah=>?_)
  .rfl';intro L D;let N:=wC (o:=.dK []) (ZB (H:=ad)) D;let V:=dF k1 a6 D;show(A.Ae,j,_,N _ _ a6,T.Au,T.A8,by change 1 < 1000;decide,L,(k1.trans (Kp.of N)).set,KB,V.1,by rw[IB V.2,KB])
  rintro⟨rfl,L,k2,a7,D,ac⟩;show(λW O=>W=[↑s,↑J,some (.int (k:Int))]/\sW A.Ae s j J L H O,?_,λcl c3=>?_)
  .rfl';intro U F;let N:=wC (o:=.dK []) (ZB (H:=ah)) F;let V:=dF k2 a7 F;let a3:L≠s:=λB=>by rw[B,Y] at D;cases D
   show(A.Ae,j,_,N _ _ a7,T.Au,T.Bk,by change 2 < 1000;decide,U,(k2.trans (Kp.of N)).set,KB,V.1,by rw[IB V.2,KB],NC ac F,by rw[IB a3];show N _ _ ac)
  rintro⟨rfl,U,k3,a1,F,b5,c0,bd⟩;rfl';intro bk a4 a2 a8 ab;show(bk,a4,k,rfl,KB,a9,λc1 b4 a0 bc be b1 b2=>?_);let Z:=Kp.made a2 a8 ab be;let a5:=dF k3 a1 a2;let b3:=dF k3 a1 (gG a2 a8 ab bc);let a3:L≠s:=λB=>by rw[B,Y] at D;cases D
  let bm:U≠s:=λB=>by rw[B,Y] at F;cases F
  show(rfl,A.Ae,j,_,Z _ _ a1,T.Au,T.Cc,by change 3 < 1000;decide,?_);show q _ (s,L,U,bk) rfl (⟨j,KB⟩,by change uB a0 s _ L=_;rw[IB a3];show Z _ _ bd,by change uB a0 s _ U=_;rw[IB bm];show Z _ _ b5,(a4,c1,b4,by change uB a0 s _ bk=_;rw[IB a5.2];show b1,by rw[IB b3.2];show b2,a9),(λbl h=>by cases h),(λbl h=>by cases h),c0) D F a5.1 (k3.trans (Kp.of Z)).set
structure pC (A:XB) (H:Hp) (p:Addr) (z:Sn) (e:En) (sh:Addr) (n m k c:Nat) (tt bb:Kvs):Prop where
 me:∃dx kn,H p>(.ins A.Ab dx (uG sh n z.p e.p kn))
 sn:dC A.Ac A.Am H z n m
 en:vC A H e sh k c tt bb
 sh:oC A.Al H sh
theorem pC.same {A:XB} {H j:Hp} {B:Addr} {J:Sn} {e:En} {D:Addr} {n m k c:Nat} {F q:Kvs} (h:pC A H B J e D n m k c F q) (s:vB H j):pC A j B J e D n m k c F q:=
 (let ⟨dx,kn,e⟩:=h.me;(dx,kn,s _ _ e),h.sn.same s,h.en.same s,h.sh.same s)
theorem dC.set {C P s:Addr} {H:Hp} {j:Sn} {n m:Nat} {o F:HO} (h:dC C P H j n m) (J:H s>o) (D:∀c∈j.p::j.all,c≠s):dC C P (uB H s F) j n m:=h.kp λc q o B=>by rw[IB (D c q)];show B
theorem vC.kp {A:XB} {H F:Hp} {e:En} {Y:Addr} {k c:Nat} {O U:Kvs} {s Z:Addr} {fs:!(Str×V)} (h:vC A H e Y k c O U) (N:Kp [s] H F) (L:∃q,H s>(.ins Z q fs)) (a5:e.p≠s) (a6:e.bk≠s) (a7:O=[]):vC A F e Y k c O U:=by
 let(d,L):=L;let D:∀{a:Addr} {o:HO},H a>o->(∀C q fs,o≠.ins C q fs)->F a>o:=λh n=>N.at h (λj=>by rw[j,L] at h;show n _ _ _ (lA h).symm);let(a2,a8,a4,J,a0,a1):=h.bk;show(let ⟨q,e⟩:=h.me;⟨q,N.at e a5⟩,D h.t (λο ο ο j=>nomatch j),D h.b (λο ο ο j=>nomatch j),(a2,a8,a4,N.at J a6,D a0 (λο ο ο j=>nomatch j),a1),λW B=>(by rw[a7] at B;cases B),λW B=>?_,h.ne);let(l,a3,J):=h.bs W B;show(l,a3,D J (λο ο ο j=>nomatch j))
def fZ (C:Addr):Sp:=λvs H Q ο=>∃sh,vs=[.ref sh]/\oC C H sh/\∀i:Int,Q (.int i) H
theorem xN (T:QB K mg A):zB P w K mg base A.Al "sheet_size" 1 ["self"] [] (fZ A.Al):=by
 show T.Fr.have jc (λvs H Q E j=>?_) ?_
 .let(D,rfl,_):=j;rfl
 .intro f J F U s H vs Q E O j;let(D,rfl,(B,L,N,h1),q):=j;show(_,(EB (PB (SB (oB 0) rfl))),?_);rfl';show(_,B,_,h1,T.Bv,T.Bw,_,cf,q _)
def tW (A:XB) (s dx sh:Addr) (n m:Nat) (H G:Hp):Prop:=∃z:Sn,Kp [s] H G/\G s>(.ins A.Ab dx (wB "sheets" (.ref z.p) (wB "frame_count" (.int n) (wB "shape" (.ref sh) []))))/\dC A.Ac A.Am G z n m/\(∀c∈z.p::z.all,H c=none)
def uW (A:XB) (s dx sh:Addr) (n m k:Nat) (z:Sn) (H G:Hp):Prop:=∃e:En,Kp [s] H G/\G s>(.ins A.Ab dx (wB "entries" (.ref e.p) (wB "sheets" (.ref z.p) (wB "frame_count" (.int n) (wB "shape" (.ref sh) [])))))/\dC A.Ac A.Am G z n m/\vC A G e sh k 0 [] []/\H e.p=none/\H e.td=none/\H e.bd=none/\H e.bk=none
def fK (A:XB):Sp:=λvs H Q ο=>∃(s dx sh:Addr) (n m k:Nat),vs=[.ref s,.ref sh,.int n,.int m,.int k]/\H s>(.ins A.Ab dx [])/\oC A.Al H sh/\n<=64/\m<=64/\k<=64/\∀H' z e,pC A H' s z e sh n m k 0 [] []->(∀c∈[z.p,z.fp,z.sq,e.p,e.bk,e.td,e.bd],H c=none)->Kp [s] H H'->Q .non H'
theorem yN (T:QB K mg A):kC P w K mg base "Keeper" A.Ab 5 ["self","shape","frames","slots","places"] [] (fK A):=by
 let ah:=@xN P w K mg base A T;show T.Lh.have zd (λvs H Q E D=>?_) ?_
 .let(s,B,F,n,m,k,rfl,_):=D;rfl
 .intro f ck cd d2 s H vs Q E a4 D;let(s,B,F,n,m,k,rfl,a5,a6,c0,bm,be,q):=D;let a7:F≠s:=a6.ne a5;show(_,(OB (qC (oB 0) (oB 1) rfl)
   (OB (qC (oB 0) (oB 2) rfl)
   (ID (qC (oB 0) (VF (fN T) (-a4) JB (qB (oB 2) (qB (oB 3) (qB (WC (oB 1) T.Bv ah (-a4) JB) AB)))) rfl)
   (ID (qC (oB 0) (VF (wN T) (-a4) JB (qB (oB 1) (qB (oB 4) AB))) rfl)
   (OB (qC (oB 0) mJ rfl)
   (OB (qC (oB 0) HB rfl)
   (OB (qC (oB 0) HB rfl)
   (OB (qC (oB 0) HB rfl)
   (OB (qC (oB 0) HB rfl)
   (EB (qC (oB 0) HB rfl))))))))))),?_)
  rfl';simp only[a5];rfl';show(T.Ai,T.Jq,T.Ai,T.Cl,by change 1 < 1000;decide,λa8 O=>a8=[↑s,↑F,some (.int (n:Int)),some (.int (m:Int)),some (.int (k:Int))]/\tW A s B F n m H O,?_,λd3 ch=>?_)
  .let k0:Kp [s] H (uB H s (.ins A.Ab B (wB "frame_count" (.int n) (wB "shape" (.ref F) [])))):=(Kp.of ZB).set;let Z:uB H s (.ins A.Ab B (wB "frame_count" (.int n) (wB "shape" (.ref F) []))) s>(.ins A.Ab B (wB "frame_count" (.int n) (wB "shape" (.ref F) []))):=KB;let ac:=a6.kp k0 a7;generalize uB H s (.ins A.Ab B (wB "frame_count" (.int n) (wB "shape" (.ref F) [])))=O at *;unfold fZ;rfl';let(b3,cs,d1,e):=id ac;show(b3,_,e,KJ ∅,ac,λi x a1 N V Y=>?_);show(x,a1,n,m,i,rfl,KB,c0,bm,λap D c1 a3 bd k2=>?_);subst a3;let J:=Kp.made N V Y k2;let ab:∀c∈D.p::D.all,O c=none:=λc j=>by
    let rfl||j:=iA.mp j
    .show N
    .show gG N V Y (bd c j)
   show(rfl,A.Ab,B,_,J _ _ Z,T.Ai,T.Ay,by change 2 < 1000;decide,D,(k0.trans (Kp.of J)).set,KB,c1.set (J _ _ Z) (λc j=>(dF k0 Z (ab c j)).2),λc j=>(dF k0 Z (ab c j)).1)
  rintro⟨rfl,D,k1,U,c2,W⟩;let ns:∀{c:Addr},H c=none->c≠s:=λh D=>by rw[D,a5] at h;cases h
  show(λa8 O=>a8=[↑s,↑F,some (.int (n:Int)),some (.int (m:Int)),some (.int (k:Int))]/\uW A s B F n m k D H O,?_,λdb ad=>?_)
  .rfl';intro x a1 N V Y;show(x,a1,F,k,rfl,KB,be,λap e a3 bb h1 h2 h3 k2=>?_);subst a3;let J:=Kp.made N V Y k2;let a0:=λ{c:Addr} h=>dF k1 U (gG (C:=A.Ae) (c:=c) N V Y h);let a9:=dF k1 U N;show(rfl,A.Ab,B,_,J _ _ U,T.Ai,T.Ax,by change 3 < 1000;decide,e,(k1.trans (Kp.of J)).set,KB,(c2.same J).set (J _ _ U) (λc j=>ns (W c j)),bb.kp (Kp.of ZB).set ⟨B,J _ _ U⟩ a9.2 (a0 h3).2 rfl,a9.1,(a0 h1).1,(a0 h2).1,(a0 h3).1)
  rintro⟨rfl,e,k2,a2,c3,bc,b4,cl,co,b5⟩;rfl';intro ca bl;let L:=wC (o:=.dK []) (ZB (H:=ad)) bl;show(A.Ab,B,_,L _ _ a2,T.Ai,T.Jr,by change 4 < 1000;decide,T.Ai,T.Bs,by change 5 < 1000;decide,T.Ai,T.B6,by change 6 < 1000;decide,T.Ai,T.Bp,by change 7 < 1000;decide,T.Ai,T.Bn,by change 8 < 1000;decide,T.Ai,T.Ca,by change 9 < 1000;decide,?_);show q _ D e ((B,ca,KB),(c3.same L).set (L _ _ a2) (λc j=>ns (W c j)),(bc.same L).kp (Kp.of ZB).set ⟨B,L _ _ a2⟩ (ns b4) (ns b5) rfl,((a6.kp k2 a7).same L).kp (Kp.of ZB).set a7) (λc j=>?_) (k2.trans (Kp.of L)).set;simp only[iA,xA,dB] at j;let rfl||rfl||rfl||rfl||rfl||rfl||rfl:=j
  .show W _ (zA ..)
  .show W _ (by simp[Sn.all])
  .show W _ (by simp[Sn.all])
  all_goals assumption
def gK (A:XB):Sp:=λvs H Q ο=>∃(p:Addr) (z:Sn) (e:En) (sh:Addr) (n m k c:Nat) (tt bb:Kvs),vs=[.ref p]/\pC A H p z e sh n m k c tt bb/\∀H',vB H H'->Q (.int 0) H'
theorem jI (T:QB K mg A):zB P w K mg base A.Ab "live_sheets" 3 ["self"] [] (gK A):=by
 let D:=@kW P w K mg base A T;show T.Dd.have Ud (λvs H Q E j=>?_) ?_
 .let(O,j,e,U,n,m,k,c,V,F,rfl,_):=j;rfl
 .intro f Y W a0 s H vs Q E N j;let(O,j,e,U,n,m,k,c,V,F,rfl,B,q):=j;let(L,Z,h1):=B.me;let(J,i,h2):=B.sn.me;show(_,(EB (PB (WC (SB (oB 0) rfl) T.Ap D (-N) JB))),?_);unfold fI;rfl';show(_,L,_,h1,T.Ai,T.Ay,_,cN,j.p,rfl,J,_,h2,IL ∅,j,rfl,n,m,B.sn,q)
def iK (A:XB):Sp:=λvs H Q ο=>∃(p:Addr) (z:Sn) (e:En) (sh:Addr) (n m k c:Nat) (tt bb:Kvs),vs=[.ref p]/\pC A H p z e sh n m k c tt bb/\∀H' l,vB H H'->H' l>(nn n)->Q (.ref l) H'
theorem zN (T:QB K mg A):zB P w K mg base A.Ab "told_frames" 2 ["self"] [] (iK A):=by
 let D:=@lW P w K mg base A T;show T.Df.have ae (λvs H Q E j=>?_) ?_
 .let(O,j,e,U,n,m,k,c,V,F,rfl,_):=j;rfl
 .intro f Y W a0 s H vs Q E N j;let(O,j,e,U,n,m,k,c,V,F,rfl,B,q):=j;let(L,Z,h1):=B.me;let(J,i,h2):=B.sn.me;show(_,(EB (PB (WC (SB (oB 0) rfl) T.Ap D (-N) JB))),?_);unfold gI;rfl';show(_,L,_,h1,T.Ai,T.Ay,_,cN,j.p,rfl,J,_,h2,IL ∅,j,rfl,n,m,B.sn,q)
def Xf (A:XB):Sp:=λvs H Q ο=>∃(p:Addr) (z:Sn) (e:En) (sh:Addr) (n m k c:Nat) (tt bb:Kvs),vs=[.ref p]/\pC A H p z e sh n m k c tt bb/\∀H' l,vB H H'->H' l>(nn m)->Q (.ref l) H'
theorem jK (T:QB K mg A):zB P w K mg base A.Ab "told_slots" 3 ["self"] [] (Xf A):=by
 let D:=@kN P w K mg base A T;show T.Ea.have ce (λvs H Q E j=>?_) ?_
 .let(O,j,e,U,n,m,k,c,V,F,rfl,_):=j;rfl
 .intro f Y W a0 s H vs Q E N j;let(O,j,e,U,n,m,k,c,V,F,rfl,B,q):=j;let(L,Z,h1):=B.me;let(J,i,h2):=B.sn.me;show(_,(EB (PB (WC (SB (oB 0) rfl) T.Ap D (-N) JB))),?_);unfold bZ;rfl';show(_,L,_,h1,T.Ai,T.Ay,_,cN,j.p,rfl,J,_,h2,IL ∅,j,rfl,n,m,B.sn,q)
def Zf (A:XB):Sp:=λvs H Q ο=>∃(p:Addr) (z:Sn) (e:En) (sh:Addr) (n m k c:Nat) (tt bb:Kvs),vs=[.ref p]/\pC A H p z e sh n m k c tt bb/\Q (.int 0) H
theorem kK (T:QB K mg A):zB P w K mg base A.Ab "hand_at" 2 ["self"] [] (Zf A):=by
 let D:=@iN P w K mg base A T;show T.Ig.have ee (λvs H Q E j=>?_) ?_
 .let(O,j,e,U,n,m,k,c,V,F,rfl,_):=j;rfl
 .intro f Y W a0 s H vs Q E N j;let(O,j,e,U,n,m,k,c,V,F,rfl,B,q):=j;let(L,Z,h1):=B.me;let(J,i,h2):=B.sn.me;show(_,(EB (PB (WC (SB (oB 0) rfl) T.Ap D (-N) JB))),?_);unfold ZY;rfl';show(_,L,_,h1,T.Ai,T.Ay,_,cN,j.p,rfl,J,_,h2,IL ∅,j,rfl,n,m,B.sn,q)
def ag (A:XB):Sp:=λvs H Q ο=>∃(p:Addr) (z:Sn) (e:En) (sh:Addr) (n m k c:Nat) (tt bb:Kvs) (y:Int),vs=[.ref p,.int y]/\pC A H p z e sh n m k c tt bb/\inl y∈WB tt/\∀H' l,vB H H'->H' l>(.lst [])->Q (.ref l) H'
theorem lK (T:QB K mg A):zB P w K mg base A.Ab "told_task" 4 ["self","task"] [] (ag A):=by
 show T.Fk.have Vd (λvs H Q E j=>?_) ?_
 .let(Y,j,e,F,n,m,k,c,J,D,L,rfl,_):=j;rfl
 .intro f a0 Z a2 s H vs Q E V j;let(Y,j,e,F,n,m,k,c,J,D,L,rfl,B,W,q):=j;let(U,a1,h1):=B.me;let(O,h2):=B.en.me;show(_,(EB (PB (uD (SB (oB 0) rfl) T.Au (qN T) (-V) JB (qB (oB 1) AB)))),?_);rfl';show(_,U,_,h1,T.Ai,T.Ax,_,KL,e.p,rfl,O,_,h2,JL ∅,e,F,k,c,J,D,L,rfl,B.en,B.sh,W,q)
def bg (A:XB):Sp:=λvs H Q ο=>∃(p:Addr) (z:Sn) (e:En) (sh:Addr) (n m k c:Nat) (tt bb:Kvs) (y:Int),vs=[.ref p,.int y]/\pC A H p z e sh n m k c tt bb/\inl y∈WB tt/\∀H',vB H H'->Q (.int 1) H'
theorem mK (T:QB K mg A):zB P w K mg base A.Ab "table_count" 4 ["self","task"] [] (bg A):=by
 show T.De.have Yd (λvs H Q E j=>?_) ?_
 .let(Y,j,e,F,n,m,k,c,J,D,L,rfl,_):=j;rfl
 .intro f a0 Z a2 s H vs Q E V j;let(Y,j,e,F,n,m,k,c,J,D,L,rfl,B,W,q):=j;let(U,a1,h1):=B.me;let(O,h2):=B.en.me;show(_,(EB (PB (uD (SB (oB 0) rfl) T.Au (rN T) (-V) JB (qB (oB 1) AB)))),?_);rfl';show(_,U,_,h1,T.Ai,T.Ax,_,KL,e.p,rfl,O,_,h2,JL ∅,e,F,k,c,J,D,L,rfl,B.en,B.sh,W,q)
def cg (A:XB):Sp:=λvs H Q ο=>∃(p:Addr) (z:Sn) (e:En) (sh:Addr) (n m k c:Nat) (tt bb:Kvs) (y:Int),vs=[.ref p,.int y]/\pC A H p z e sh n m k c tt bb/\inl y∈WB bb/\∀H' l,vB H H'->H' l>(nn c)->Q (.ref l) H'
theorem nK (T:QB K mg A):zB P w K mg base A.Ab "told_bank" 2 ["self","bank"] [] (cg A):=by
 show T.Fl.have Xd (λvs H Q E j=>?_) ?_
 .let(Y,j,e,F,n,m,k,c,J,D,L,rfl,_):=j;rfl
 .intro f a0 Z a2 s H vs Q E V j;let(Y,j,e,F,n,m,k,c,J,D,L,rfl,B,W,q):=j;let(U,a1,h1):=B.me;let(O,h2):=B.en.me;show(_,(EB (PB (uD (SB (oB 0) rfl) T.Au (sN T) (-V) JB (qB (oB 1) AB)))),?_);rfl';show(_,U,_,h1,T.Ai,T.Ax,_,KL,e.p,rfl,O,_,h2,JL ∅,e,F,k,c,J,D,L,rfl,B.en,W,q)
def dg (A:XB):Sp:=λvs H Q ο=>∃(p:Addr) (z:Sn) (e:En) (sh:Addr) (n m k c:Nat) (tt bb:Kvs),vs=[.ref p]/\pC A H p z e sh n m k c tt bb/\∀H' l,vB H H'->H' l>(nn k)->Q (.ref l) H'
theorem oK (T:QB K mg A):zB P w K mg base A.Ab "told_book" 3 ["self"] [] (dg A):=by
 show T.Fm.have Zd (λvs H Q E j=>?_) ?_
 .let(V,j,e,F,n,m,k,c,J,D,rfl,_):=j;rfl
 .intro f Y W a0 s H vs Q E U j;let(V,j,e,F,n,m,k,c,J,D,rfl,B,q):=j;let(O,Z,h1):=B.me;let(N,h2):=B.en.me;show(_,(EB (PB (WC (SB (oB 0) rfl) T.Au (tN T) (-U) JB))),?_);rfl';show(_,O,_,h1,T.Ai,T.Ax,_,KL,e.p,rfl,N,_,h2,JL ∅,e,F,k,c,J,D,rfl,B.en,q)
def pK (A:XB):Sp:=λvs H Q ο=>∃(p:Addr) (z:Sn) (e:En) (sh:Addr) (n m k c:Nat) (tt bb:Kvs),vs=[.ref p]/\pC A H p z e sh n m k c tt bb/\∀H' l,vB H H'->H' l>(.tup (List.replicate 9 (V.int 0)))->Q (.ref l) H'
theorem AN (T:QB K mg A):zB P w K mg base A.Ab "counts" 4 ["self"] [] (pK A):=by
 let a7:=@jN P w K mg base A T;show T.Js.have zY (λvs H Q E j=>?_) ?_
 .let(a2,j,e,a4,n,m,k,c,a5,a0,rfl,_):=j;rfl
 .intro f bc bb be s H vs Q E a1 j;let(a2,j,e,a4,n,m,k,c,a5,a0,rfl,D,q):=j;let(L,bd,h1):=D.me;let(a9,i,h2):=D.sn.me;show(_,(OB (OC (i:=1) zY.nd rfl (Or.inl rfl) (QF (qB (SB (oB 0) rfl) (qB (SB (oB 0) rfl) (qB (SB (oB 0) rfl) (qB (SB (oB 0) rfl) AB))))))
   (EB (PB (lC nX (lC nX (oB 1) (WC (SB (oB 0) rfl) T.Ap a7 (-a1) JB)) (QF (qB (SB (oB 0) rfl) (qB (WC (oB 0) T.Ai (jI T) (-a1) JB) AB))))))),?_)
  unfold aZ;rfl';simp only[h1];rfl';show(T.Ai,T.Bs,_,Rf,T.Ai,T.B6,_,Sf,T.Ai,T.Bp,_,Tf,T.Ai,T.Bn,_,Uf,λN ap=>?_);let B:=wC (o:=.tup [.int 0,.int 0,.int 0,.int 0]) (ZB (H:=H)) ap;let ab:uB H N (.tup [.int 0,.int 0,.int 0,.int 0]) N>(.tup [.int 0,.int 0,.int 0,.int 0]):=KB;generalize uB H N (.tup [.int 0,.int 0,.int 0,.int 0])=H1 at *;show(_,L,_,B _ _ h1,T.Ai,T.Ay,_,cN,j.p,rfl,a9,_,B _ _ h2,IL ∅,j,rfl,n,m,D.sn.same B,λO b1=>?_);let Y:=wC (o:=.tup [.int 0,.int 0,.int 0]) (ZB (H:=H1)) b1;let ac:uB H1 O (.tup [.int 0,.int 0,.int 0]) O>(.tup [.int 0,.int 0,.int 0]):=KB;generalize uB H1 O (.tup [.int 0,.int 0,.int 0])=H2 at *;show(_,ED.of (Y _ _ ab),_,ED.of ac,nofun,by decide,nofun,λο U b2=>?_);let a8:=wC (o:=.tup ([.int 0,.int 0,.int 0,.int 0]++[.int 0,.int 0,.int 0])) (ZB (H:=H2)) b2;let ad:uB H2 U (.tup ([.int 0,.int 0,.int 0,.int 0]++[.int 0,.int 0,.int 0])) U>(.tup (List.replicate 7 (V.int 0))):=KB;generalize uB H2 U (.tup ([.int 0,.int 0,.int 0,.int 0]++[.int 0,.int 0,.int 0]))=H3 at *;let F:=(B.trans Y).trans a8;show(_,L,_,F _ _ h1,T.Ai,T.Ca,_,Vf,L,_,F _ _ h1,FF ∅,a2,j,e,a4,n,m,k,c,a5,a0,rfl,D.same F,λJ a3=>?_);show λW b3=>?_;let Z:=wC (o:=.tup [.int 0,.int 0]) (ZB (H:=J)) b3;let ah:uB J W (.tup [.int 0,.int 0]) W>(.tup [.int 0,.int 0]):=KB;generalize uB J W (.tup [.int 0,.int 0])=H5 at *;show(_,ED.of (Z _ _ (a3 _ _ ad)),_,ED.of ah,nofun,by decide,nofun,λο b5 b4=>?_);show q _ b5 (wC (F.trans (a3.trans Z)) b4) KB
def gZ (A:XB):Sp:=λvs H Q E=>∃n m k:Int,vs=[.int n,.int m,.int k]/\if (1<=n/\n<=64)/\(0<=m/\m<=64)/\(0<=k/\k<=64) then Q .non H else E (.ref A.Ad) none H
theorem BN (T:QB K mg A):RC P w K mg base "check_sizes" 3 ["frames","slots","places"] [] (gZ A):=by
 let B:=@SV P w K mg base A T;show T.Le.have fe (λvs H Q E j=>?_) ?_
 .let(n,m,k,rfl,_):=j;rfl
 .intro f O N U s H vs Q E D j;let(n,m,k,rfl,q):=j;show(_,(OB (BC (WE (MD (CC B (-D) JB (qB (oB 0) (qB HB (qB (HG rfl T.Bt) AB)))))) (EB (JG IG rfl T.Bo (qB OD AB))) AC)
   (OB (BC (WE (MD (CC B (-D) JB (qB (oB 1) (qB HB (qB (HG rfl T.Bt) AB)))))) (EB (JG IG rfl T.Bo (qB OD AB))) AC)
   (EB (BC (WE (MD (CC B (-D) JB (qB (oB 2) (qB HB (qB (HG rfl T.Bt) AB)))))) (EB (JG IG rfl T.Bo (qB OD AB))) AC)))),?_)
  unfold sp_is_within;rfl';let J:∀x l h:Int,(not (DC (V.int x) l h))= not ((decide (l<=x)&&decide (x<=h))):=λx l h=>by rw[sJ]
  rw[J,J,J];let F:∀{x l h:Int},¬(l<=x/\x<=h)->(not ((decide (l<=x)&&decide (x<=h))))=true:=λh=>by simp only[Bool.not_eq_true',Bool.and_eq_false_iff,decide_eq_false_iff_not];omega
  let L:∀{x l h:Int},(l<=x/\x<=h)->¬(not ((decide (l<=x)&&decide (x<=h))))=true:=λh=>by simpa using h
  by_cases h1:1<=n/\n<=64;rotate_left
  .rw[kA (λj=>h1 j.1)] at q;rw[vA (F h1)];show q
  rw[kA (L h1)];by_cases h2:0<=m/\m<=64;rotate_left
  .rw[kA (λj=>h2 j.2.1)] at q;rw[vA (F h2)];show q
  rw[kA (L h2)];by_cases h3:0<=k/\k<=64;rotate_left
  .rw[kA (λj=>h3 j.2.2)] at q;rw[vA (F h3)];show q
  rw[kA (L h3)];rw[vA (h1,h2,h3)] at q;show q
set_option genInjectivity false in
structure Mz where
 p:Addr
 kp:Addr
 h:Hz
 z:Sn
 e:En
 sh:Addr
structure bC (A:XB) (H:Hp) (x:Mz) (n m k c:Nat) (tk bk tt bb:Kvs):Prop where
 me:∃dx,H x.p>(.ins A.Aa dx (dN x.sh x.h.p x.kp))
 h:fC A.Ah A.Aj H x.h tk bk
 k:pC A H x.kp x.z x.e x.sh n m k c tt bb
 ap:x.h.td≠x.e.td/\x.h.td≠x.e.bd/\x.h.bd≠x.e.td/\x.h.bd≠x.e.bd
theorem bC.same {A:XB} {H j:Hp} {x:Mz} {n m k c:Nat} {B bk D q:Kvs} (h:bC A H x n m k c B bk D q) (s:vB H j):bC A j x n m k c B bk D q:=
 (let ⟨dx,e⟩:=h.me;⟨dx,s _ _ e⟩,h.h.same s,h.k.same s,h.ap)
theorem Kp.kd {q:Addr} {H j:Hp} (k:Kd q H j):Kp [q] H j:=λc o h n=>k c o h (λB=>n (AA.mpr B))
theorem Kp.no_ins {s:Addr} {H q:Hp} {B j:Addr} {fs:!(Str×V)} (k:Kp [s] H q) (D:H s>(.ins B j fs)) {a:Addr} {o:HO} (h:H a>o) (n:∀C j fs,o≠.ins C j fs):q a>o:=k.at h (λF=>by rw[F,D] at h;show n _ _ _ (lA h).symm)
theorem dC.ki {C P s F B:Addr} {H D:Hp} {j:Sn} {n m:Nat} {fs:!(Str×V)} (h:dC C P H j n m) (k:Kp [s] H D) (q:H s>(.ins F B fs)) (Z:j.p≠s) (a0:j.fp≠s) (a1:j.sq≠s):dC C P D j n m:=by
 let((B,i,h1),(J,h2),(L,h3),N,O,U,W,Y):=h;show((B,i,k.at h1 Z),⟨J,k.at h2 a0⟩,⟨L,k.at h3 a1⟩,k.no_ins q N (λο ο ο j=>nomatch j),k.no_ins q O (λο ο ο j=>nomatch j),k.no_ins q U (λο ο ο j=>nomatch j),k.no_ins q W (λο ο ο j=>nomatch j),Y)
def eg (A:XB) (s dx sh:Addr) (H G:Hp):Prop:=∃h:Hz,Kp [s] H G/\G s>(.ins A.Aa dx (wB "house" (.ref h.p) (wB "shape" (.ref sh) [])))/\fC A.Ah A.Aj G h [] []/\H h.p=none/\H h.td=none/\H h.bd=none
def vG (n m k:Int):Prop:=(1<=n/\n<=64)/\(0<=m/\m<=64)/\(0<=k/\k<=64)
instance (n m k:Int):Decidable (vG n m k):=inferInstanceAs (Decidable (_/\_))
def CN (A:XB):Sp:=λvs H Q E=>∃(s dx sh:Addr) (n m k:Int),vs=[.ref s,.ref sh,.int n,.int m,.int k]/\H s>(.ins A.Aa dx [])/\oC A.Al H sh/\if vG n m k then ∀H' x,bC A H' x n.toNat m.toNat k.toNat 0 [] [] [] []->x.p=s->Kp [s] H H'->Q .non H' else E (.ref A.Ad) none H
theorem lI (T:QB K mg A):QD P w K mg base "Machine.__init__" SG ["self","shape","frames","slots","places"] 6 (CN A):=by
 let b3:=@BN P w K mg base A T;intro f db d3 e0 s H vs Q E a6 j;let(s,D,B,n,m,k,rfl,a7,ah,q):=j;let ap:B≠s:=ah.ne a7;show(_,(OB (AF (CC b3 (-a6) JB (qB (oB 2) (qB (oB 3) (qB (oB 4) AB)))))
   (OB (qC (oB 0) (oB 1) rfl)
   (ID (qC (oB 0) (VF (rf T) (-a6) JB (qB (oB 1) AB)) rfl)
   (EB (qC (oB 0) (VF (yN T) (-a6) JB (qB (oB 1) (qB (oB 2) (qB (oB 3) (qB (oB 4) AB))))) rfl))))),?_)
 unfold gZ;rfl';by_cases F:vG n m k;rotate_left
 .rw[kA F] at q;rw[kA (λj=>F (⟨j.1,j.2.1⟩,⟨j.2.2.1,j.2.2.2.1⟩,j.2.2.2.2))];show q
 rw[vA F] at q;rw[vA (F.1.1,F.1.2,F.2.1.1,F.2.1.2,F.2.2)];let((dd,de),(dh,dk),dl,dp):=F;show(_,D,_,a7,T.Af,T.Ih,by decide,λd2 a8=>d2=[↑s,↑B,some (.int n),some (.int m),some (.int k)]/\eg A s D B H a8,?_,λe1 b2=>?_)
 .let k0:Kp [s] H (uB H s (.ins A.Aa D (wB "shape" (.ref B) []))):=(Kp.of ZB).set;let W:uB H s (.ins A.Aa D (wB "shape" (.ref B) [])) s>(.ins A.Aa D (wB "shape" (.ref B) [])):=KB;generalize uB H s (.ins A.Aa D (wB "shape" (.ref B) []))=a8 at *;rfl';intro a5 a2 Z N O;show(a5,a2,B,rfl,KB,λb1 ac U ch c3 cd kd bb a9 ab=>?_);let L:=Kp.made Z N O (Kp.kd kd);let V:=L _ _ W;show(rfl,A.Aa,D,_,V,T.Af,T.Aw,by change 1 < 1000;decide,(a5,B,b1,ac),(k0.trans (Kp.of L)).set,KB,(⟨a2,by change uB U s _ a5=_;rw[IB (dF k0 W Z).2];show bb⟩,by change uB U s _ b1=_;rw[IB (AG a9 V nofun)];show a9,by change uB U s _ ac=_;rw[IB (AG ab V nofun)];show ab,(λco h=>by cases h),cd),(dF k0 W Z).1,(dF k0 W (gG (C:=A.Ah) Z N O ch)).1,(dF k0 W (gG (C:=A.Ah) Z N O c3)).1)
 rintro⟨rfl,h,k1,a4,J,ad,dt,dr⟩;rfl';intro kp a2 a3 N O;let c0:((n.toNat:Nat):Int)=n:=MA ⋯;let bm:((m.toNat:Nat):Int)=m:=MA ⋯;let bl:((k.toNat:Nat):Int)=k:=MA ⋯;show(kp,a2,B,n.toNat,m.toNat,k.toNat,by rw[c0,bm,bl],KB,(ah.kp k1 ap).same (NG a3 N O),⋯,⋯,⋯,λU j e c2 ca ck=>?_);let L:=Kp.made a3 N O ck;let Y:=L _ _ a4;let a0:∀{c:Addr},c∈[j.p,j.fp,j.sq,e.p,e.bk,e.td,e.bd]->b2 c=none:=λh=>gG (C:=A.Ab) a3 N O (ca _ h);let a1:∀{c:Addr},c∈[j.p,j.fp,j.sq,e.p,e.bk,e.td,e.bd]->c≠s:=λh=>(dF k1 a4 (a0 h)).2;let ks:∀o,Kp [s] U (uB U s o):=λo=>(Kp.of ZB).set;let((bd,cl,V),sn,c1,d1):=c2;let(bc,be):=J.me;let cs:h.p≠s:=λj=>by rw[j,a7] at ad;cases ad
 show(rfl,A.Aa,D,_,Y,T.Af,T.Ao,by change 2 < 1000;decide,?_);show q _ (s,kp,h,j,e,B) (⟨D,KB⟩,(⟨bc,(ks _).at (L _ _ be) cs⟩,(ks _).no_ins Y (L _ _ J.t) (λο ο ο j=>nomatch j),(ks _).no_ins Y (L _ _ J.b) (λο ο ο j=>nomatch j),(λco h=>by cases h),J.ne),
  ((bd,cl,(ks _).at V (dF k1 a4 a3).2),sn.ki (ks _) Y (a1 (by simp)) (a1 (by simp)) (a1 (by simp)),c1.kp (ks _) ⟨D,Y⟩ (a1 (by simp)) (a1 (by simp)) rfl,d1.kp (ks _) ap),
  (NC J.t (a0 (by simp)),NC J.t (a0 (by simp)),NC J.b (a0 (by simp)),NC J.b (a0 (by simp)))) rfl (k1.trans (Kp.of L)).set
theorem mI {A:XB}:∀vs H Q E,CN A vs H Q E->vs.length=5:=λvs H Q E j=>by
 let(s,q,B,n,m,k,rfl,_):=j;rfl
theorem DN (T:QB K mg A):kC P w K mg base "Machine" A.Aa 7 ["self","shape","frames","slots","places"] [] (CN A):=T.Kq.have AY mI (lI T)
theorem qK (T:QB K mg A):kC P w K mg base "Machine" A.Aa 7 ["self","shape","frames","slots","places"] [.int 0] (CN A):=T.Jt.have AY mI (lI T)
def rK (A:XB):Sp:=λvs H Q ο=>∃(x:Mz) (n m k c:Nat) (tk bk tt bb:Kvs),vs=[.ref x.p]/\bC A H x n m k c tk bk tt bb/\∀H',vB H H'->Q (.int 0) H'
theorem EN (T:QB K mg A):zB P w K mg base A.Aa "live_sheets" 4 ["self"] [] (rK A):=by
 show T.Cm.have se (λvs H Q E B=>?_) ?_
 .let(x,n,m,k,c,U,bk,F,D,rfl,_):=B;rfl
 .intro f W V Z s H vs Q E O B;let(x,n,m,k,c,U,bk,F,D,rfl,j,q):=B;let(N,h1):=j.me;let(L,Y,h2):=j.k.me;show(_,(EB (PB (WC (SB (oB 0) rfl) T.Ai (jI T) (-O) JB))),?_);rfl';show(_,N,_,h1,T.Af,T.Ao,_,iG,x.kp,rfl,L,_,h2,FF ∅,x.kp,x.z,x.e,x.sh,n,m,k,c,F,D,rfl,j.k,q)
def sK (A:XB):Sp:=λvs H Q ο=>∃(x:Mz) (n m k c:Nat) (tk bk tt bb:Kvs),vs=[.ref x.p]/\bC A H x n m k c tk bk tt bb/\∀H' l,vB H H'->H' l>(nn n)->Q (.ref l) H'
theorem FN (T:QB K mg A):zB P w K mg base A.Aa "told_frames" 3 ["self"] [] (sK A):=by
 show T.Co.have Re (λvs H Q E B=>?_) ?_
 .let(x,n,m,k,c,U,bk,F,D,rfl,_):=B;rfl
 .intro f W V Z s H vs Q E O B;let(x,n,m,k,c,U,bk,F,D,rfl,j,q):=B;let(N,h1):=j.me;let(L,Y,h2):=j.k.me;show(_,(EB (PB (WC (SB (oB 0) rfl) T.Ai (zN T) (-O) JB))),?_);rfl';show(_,N,_,h1,T.Af,T.Ao,_,iG,x.kp,rfl,L,_,h2,FF ∅,x.kp,x.z,x.e,x.sh,n,m,k,c,F,D,rfl,j.k,q)
def fg (A:XB):Sp:=λvs H Q ο=>∃(x:Mz) (n m k c:Nat) (tk bk tt bb:Kvs),vs=[.ref x.p]/\bC A H x n m k c tk bk tt bb/\∀H' l,vB H H'->H' l>(nn m)->Q (.ref l) H'
theorem tK (T:QB K mg A):zB P w K mg base A.Aa "told_slots" 4 ["self"] [] (fg A):=by
 show T.Dg.have Se (λvs H Q E B=>?_) ?_
 .let(x,n,m,k,c,U,bk,F,D,rfl,_):=B;rfl
 .intro f W V Z s H vs Q E O B;let(x,n,m,k,c,U,bk,F,D,rfl,j,q):=B;let(N,h1):=j.me;let(L,Y,h2):=j.k.me;show(_,(EB (PB (WC (SB (oB 0) rfl) T.Ai (jK T) (-O) JB))),?_);rfl';show(_,N,_,h1,T.Af,T.Ao,_,iG,x.kp,rfl,L,_,h2,FF ∅,x.kp,x.z,x.e,x.sh,n,m,k,c,F,D,rfl,j.k,q)
def gg (A:XB):Sp:=λvs H Q ο=>∃(x:Mz) (n m k c:Nat) (tk bk tt bb:Kvs),vs=[.ref x.p]/\bC A H x n m k c tk bk tt bb/\Q (.int 0) H
theorem uK (T:QB K mg A):zB P w K mg base A.Aa "hand_at" 3 ["self"] [] (gg A):=by
 show T.G5.have Te (λvs H Q E B=>?_) ?_
 .let(x,n,m,k,c,U,bk,F,D,rfl,_):=B;rfl
 .intro f W V Z s H vs Q E O B;let(x,n,m,k,c,U,bk,F,D,rfl,j,q):=B;let(N,h1):=j.me;let(L,Y,h2):=j.k.me;show(_,(EB (PB (WC (SB (oB 0) rfl) T.Ai (kK T) (-O) JB))),?_);rfl';show(_,N,_,h1,T.Af,T.Ao,_,iG,x.kp,rfl,L,_,h2,FF ∅,x.kp,x.z,x.e,x.sh,n,m,k,c,F,D,rfl,j.k,q)
def vK (A:XB):Sp:=λvs H Q ο=>∃(x:Mz) (n m k c:Nat) (tk bk tt bb:Kvs),vs=[.ref x.p]/\bC A H x n m k c tk bk tt bb/\∀H' l,vB H H'->H' l>(.tup (List.replicate 9 (V.int 0)))->Q (.ref l) H'
theorem GN (T:QB K mg A):zB P w K mg base A.Aa "counts" 5 ["self"] [] (vK A):=by
 show T.Ii.have Ue (λvs H Q E B=>?_) ?_
 .let(x,n,m,k,c,U,bk,F,D,rfl,_):=B;rfl
 .intro f W V Z s H vs Q E O B;let(x,n,m,k,c,U,bk,F,D,rfl,j,q):=B;let(N,h1):=j.me;let(L,Y,h2):=j.k.me;show(_,(EB (PB (WC (SB (oB 0) rfl) T.Ai (AN T) (-O) JB))),?_);rfl';show(_,N,_,h1,T.Af,T.Ao,_,iG,x.kp,rfl,L,_,h2,FF ∅,x.kp,x.z,x.e,x.sh,n,m,k,c,F,D,rfl,j.k,q)
def ig (A:XB):Sp:=λvs H Q ο=>∃(x:Mz) (n m k c:Nat) (tk bk tt bb:Kvs),vs=[.ref x.p]/\bC A H x n m k c tk bk tt bb/\∀H' l,vB H H'->H' l>(nn k)->Q (.ref l) H'
theorem wK (T:QB K mg A):zB P w K mg base A.Aa "told_book" 4 ["self"] [] (ig A):=by
 show T.Ef.have ze (λvs H Q E B=>?_) ?_
 .let(x,n,m,k,c,U,bk,F,D,rfl,_):=B;rfl
 .intro f W V Z s H vs Q E O B;let(x,n,m,k,c,U,bk,F,D,rfl,j,q):=B;let(N,h1):=j.me;let(L,Y,h2):=j.k.me;show(_,(EB (PB (WC (SB (oB 0) rfl) T.Ai (oK T) (-O) JB))),?_);rfl';show(_,N,_,h1,T.Af,T.Ao,_,iG,x.kp,rfl,L,_,h2,FF ∅,x.kp,x.z,x.e,x.sh,n,m,k,c,F,D,rfl,j.k,q)
def xK (A:XB):Sp:=λvs H Q ο=>∃(x:Mz) (n m k c:Nat),vs=[.ref x.p]/\bC A H x n m k c [] [] [] []/\∀H' l,vB H H'->H' l>(.lst [])->Q (.ref l) H'
theorem HN (T:QB K mg A):zB P w K mg base A.Aa "task_list" 2 ["self"] [] (xK A):=by
 show T.Eb.have ie (λvs H Q E B=>?_) ?_
 .let(x,n,m,k,c,rfl,_):=B;rfl
 .intro f Y W Z s H vs Q E O B;let(x,n,m,k,c,rfl,j,q):=B;let(J,h1):=j.me;let(F,h2):=j.h.me;show(_,(EB (PB (WC (SB (oB 0) rfl) T.As (YV T) (-O) JB))),?_);rfl';show(_,J,_,h1,T.Af,T.Aw,_,VG,x.h.p,rfl,F,_,h2,fG ∅,x.h,[],[],rfl,j.h,(λk L=>by cases L),by decide,λl V N U=>?_);obtain rfl:V=[]:=U.1.eq_nil;show q _ l (wC ZB N) KB
def yK (A:XB):Sp:=λvs H Q ο=>∃(x:Mz) (n m k c:Nat),vs=[.ref x.p]/\bC A H x n m k c [] [] [] []/\∀H' l,vB H H'->H' l>(.lst [])->Q (.ref l) H'
theorem IN (T:QB K mg A):zB P w K mg base A.Aa "bank_list" 2 ["self"] [] (yK A):=by
 show T.Ec.have je (λvs H Q E B=>?_) ?_
 .let(x,n,m,k,c,rfl,_):=B;rfl
 .intro f Y W Z s H vs Q E O B;let(x,n,m,k,c,rfl,j,q):=B;let(J,h1):=j.me;let(F,h2):=j.h.me;show(_,(EB (PB (WC (SB (oB 0) rfl) T.As (ZV T) (-O) JB))),?_);rfl';show(_,J,_,h1,T.Af,T.Aw,_,VG,x.h.p,rfl,F,_,h2,fG ∅,x.h,[],[],rfl,j.h,(λk L=>by cases L),by decide,λl V N U=>?_);obtain rfl:V=[]:=U.1.eq_nil;show q _ l (wC ZB N) KB
def zK (C S N:Addr):Sp:=λvs H Q E=>∃(z:Hz) (tk bk:Kvs) (n:Int),vs=[.ref z.p,.int n]/\fC C S H z tk bk/\((inl n∈WB tk/\∀H' l,vB H H'->H' l>(.lst [])->Q (.ref l) H')\/(inl n∉WB tk/\∀H',vB H H'->E (.ref N) none H'))
theorem JN (T:QB K mg A):zB P w K mg base A.Ah "pages_of" 3 ["self","task"] [] (zK A.Ah A.Aj A.Ag):=by
 show T.Id.have zU (λvs H Q E j=>?_) ?_
 .let(j,V,bk,n,rfl,_):=j;rfl
 .intro f a7 a6 a8 s H vs Q E a5 j;let(j,V,bk,n,rfl,U,q):=j;let(Z,h1):=U.me;show(_,(OB (OC (i:=2) zU.nd rfl (Or.inl rfl) (AD AB))
   (OB (CL SA rfl (eM (uD (oB 0) T.As (ZM T) (-a5) JB (qB (oB 1) AB))) (GE (i:=3) zU.nd rfl (Or.inr rfl)) TW)
   (EB (PB (oB 2))))),?_)
  rfl';intro B a4;let F:=wC (o:=.lst []) (ZB (H:=H)) a4;let a0:uB H B (.lst []) B>(.lst []):=KB;generalize uB H B (.lst [])=H1 at *;show(Z,_,F _ _ h1,fG ∅,j,V,bk,n,rfl,U.same F,?_);let(L,q)||(L,q):=q
  .show .inl ⟨L,λl a3=>?_⟩;let N:=wC (o:=.lst []) (ZB (H:=H1)) a3;let O:uB H1 l (.lst []) l>(.lst []):=KB;generalize uB H1 l (.lst [])=H2 at *;let a1:=N _ _ a0;show(l,rfl,⟨_,RB.of O⟩,HX (xs:=[]) (λi J D=>∃W,J=[↑j.p,some (.int n),↑B,W]/\D=H2) (_,rfl,rfl) (λi J D _ ⟨_,_,e⟩=>by rw[e];show RB.of O) (λi x J D a2=>by cases a2) (λJ D=>?_));rintro⟨W,rfl,rfl⟩;rfl';show q _ B (F.trans N) a1
  .show .inr ⟨L,q _ F⟩
def AK (A:XB):Sp:=λvs H Q E=>∃(x:Mz) (n m k c:Nat) (tk bk tt bb:Kvs) (y:Int),vs=[.ref x.p,.int y]/\bC A H x n m k c tk bk tt bb/\((inl y∈WB tk/\inl y∈WB tt/\∀H' l,vB H H'->H' l>(.lst [])->Q (.ref l) H')\/(inl y∉WB tk/\∀H',vB H H'->E (.ref A.Ag) none H'))
theorem KN (T:QB K mg A):zB P w K mg base A.Aa "stretches_of" 3 ["self","task"] [] (AK A):=by
 let J:=@ZM P w K mg base A T;show T.Cd.have ke (λvs H Q E D=>?_) ?_
 .let(x,n,m,k,c,F,bk,W,L,Y,rfl,_):=D;rfl
 .intro f a0 Z a3 s H vs Q E V D;let(x,n,m,k,c,F,bk,W,L,Y,rfl,j,q):=D;let(O,h1):=j.me;let(N,h2):=j.h.me;let(a1,a2,h3):=j.k.me;show(_,(EB (PB (uD (SB (oB 0) rfl) T.As J (-V) JB (qB (oB 1) AB)))),?_);unfold cI;rfl';show(_,O,_,h1,T.Af,T.Aw,_,VG,x.h.p,rfl,N,_,h2,fG ∅,x.h,rfl,F,bk,j.h,?_);let(B,_,q)||(B,q):=q
  .show .inl ⟨B,λl U=>q _ l (wC ZB U) KB⟩
  .show .inr ⟨B,q _ ZB⟩
def BK (A:XB):Sp:=λvs H Q E=>∃(x:Mz) (n m k c:Nat) (tk bk tt bb:Kvs) (y:Int),vs=[.ref x.p,.int y]/\bC A H x n m k c tk bk tt bb/\((inl y∈WB tk/\inl y∈WB tt/\∀H' l,vB H H'->H' l>(.lst [])->Q (.ref l) H')\/(inl y∉WB tk/\∀H',vB H H'->E (.ref A.Ag) none H'))
theorem LN (T:QB K mg A):zB P w K mg base A.Aa "seen_by" 4 ["self","task"] [] (BK A):=by
 show T.G4.have qe (λvs H Q E N=>?_) ?_
 .let(x,n,m,k,c,V,bk,ac,a2,L,rfl,_):=N;rfl
 .intro f ah ad b2 s H vs Q E a8 N;let(x,n,m,k,c,V,bk,ac,a2,L,rfl,D,q):=N;let(a4,h1):=D.me;let(a3,h2):=D.h.me;let(ap,b1,h3):=D.k.me;show(_,(EB (PB (aY rfl (eM (uD (SB (oB 0) rfl) T.As (JN T) (-a8) JB (qB (oB 1) AB))) (x:="page") (xs:=["page","rights","tie"]) (fs:=["self","task"]) (ix:=[0,1]) rfl rfl (λο ο ο ο ο ο=>(bY (K:=K) (n:=3) rfl rfl (WI (GE (i:=0) (show (["page","rights","tie","self","task"]:!Str).Nodup by decide+kernel) rfl (Or.inl rfl)) (WI (GE (i:=1) (show (["page","rights","tie","self","task"]:!Str).Nodup by decide+kernel) rfl (Or.inl rfl)) (WI (GE (i:=2) (show (["page","rights","tie","self","task"]:!Str).Nodup by decide+kernel) rfl (Or.inl rfl)) pT))))) (λο ο ο ο ο ο=>fS) (λο ο ο ο ο ο=>iW)))),?_);rfl';show(_,a4,_,h1,T.Af,T.Aw,_,VG,x.h.p,rfl,a3,_,h2,fG ∅,x.h,V,bk,L,rfl,D.h,?_);let(J,_,q)||(J,q):=q
  .show .inl ⟨J,λa0 l a9 U=>?_⟩;show(l,rfl,⟨_,RB.of U⟩,λO a5=>VT (xs:=[]) (λi B F j=>∃W Y Z,F=[W,Y,Z,↑x.p,some (.int L)]/\vB a0 j/\j O>(.lst B)/\B=[]) (_,_,_,rfl,wC ZB a5,KB,rfl) (λi B F j _ zz=>by let(_,_,_,zz):=zz;show RB.of (zz.2.1 _ _ U)) (λi x B F j a7=>by cases a7) (λB F j=>?_));rintro⟨W,Y,Z,rfl,ab,a6,rfl⟩;show q _ O (a9.trans ab) a6
  .show .inr ⟨J,q⟩
def jg (A:XB):Sp:=λvs H Q E=>∃(x:Mz) (n m k c:Nat) (tk bk tt bb:Kvs) (y:Int),vs=[.ref x.p,.int y]/\bC A H x n m k c tk bk tt bb/\((inl y∈WB tk/\inl y∈WB tt/\∀H' l,vB H H'->H' l>(.lst [])->Q (.ref l) H')\/(inl y∉WB tk/\∀H',vB H H'->E (.ref A.Ag) none H'))
theorem CK (T:QB K mg A):zB P w K mg base A.Aa "told_task" 5 ["self","task"] [] (jg A):=by
 let V:=@QJ P w K mg base A T;show T.Ed.have ue (λvs H Q E D=>?_) ?_
 .let(x,n,m,k,c,N,bk,O,F,U,rfl,_):=D;rfl
 .intro f a2 a1 a4 s H vs Q E L D;let(x,n,m,k,c,N,bk,O,F,U,rfl,j,q):=D;let(J,h1):=j.me;let(Y,h2):=j.h.me;let(Z,a3,h3):=j.k.me;show(_,(OB (AF (uD (SB (oB 0) rfl) T.As V (-L) JB (qB (oB 1) AB)))
   (EB (PB (uD (SB (oB 0) rfl) T.Ai (lK T) (-L) JB (qB (oB 1) AB))))),?_)
  unfold qS;rfl';show(_,J,_,h1,T.Af,T.Aw,_,VG,x.h.p,rfl,Y,_,h2,fG ∅,x.h,rfl,N,bk,j.h,?_);let(B,a0,q)||(B,q):=q
  .show .inl (B,_,J,_,h1,T.Af,T.Ao,_,iG,x.kp,rfl,Z,_,h3,FF ∅,x.kp,x.z,x.e,x.sh,n,m,k,c,O,F,U,rfl,j.k,a0,q)
  .show .inr ⟨B,q _ ZB⟩
def kg (A:XB):Sp:=λvs H Q E=>∃(x:Mz) (n m k c:Nat) (tk bk tt bb:Kvs) (y:Int),vs=[.ref x.p,.int y]/\bC A H x n m k c tk bk tt bb/\((inl y∈WB tk/\inl y∈WB tt/\∀H',vB H H'->Q (.int 1) H')\/(inl y∉WB tk/\∀H',vB H H'->E (.ref A.Ag) none H'))
theorem DK (T:QB K mg A):zB P w K mg base A.Aa "table_count" 5 ["self","task"] [] (kg A):=by
 let V:=@QJ P w K mg base A T;show T.Cn.have ve (λvs H Q E D=>?_) ?_
 .let(x,n,m,k,c,N,bk,O,F,U,rfl,_):=D;rfl
 .intro f a2 a1 a4 s H vs Q E L D;let(x,n,m,k,c,N,bk,O,F,U,rfl,j,q):=D;let(J,h1):=j.me;let(Y,h2):=j.h.me;let(Z,a3,h3):=j.k.me;show(_,(OB (AF (uD (SB (oB 0) rfl) T.As V (-L) JB (qB (oB 1) AB)))
   (EB (PB (uD (SB (oB 0) rfl) T.Ai (mK T) (-L) JB (qB (oB 1) AB))))),?_)
  unfold qS;rfl';show(_,J,_,h1,T.Af,T.Aw,_,VG,x.h.p,rfl,Y,_,h2,fG ∅,x.h,rfl,N,bk,j.h,?_);let(B,a0,q)||(B,q):=q
  .show .inl (B,_,J,_,h1,T.Af,T.Ao,_,iG,x.kp,rfl,Z,_,h3,FF ∅,x.kp,x.z,x.e,x.sh,n,m,k,c,O,F,U,rfl,j.k,a0,q)
  .show .inr ⟨B,q _ ZB⟩
def lg (A:XB):Sp:=λvs H Q E=>∃(x:Mz) (n m k c:Nat) (tk bk tt bb:Kvs) (y:Int),vs=[.ref x.p,.int y]/\bC A H x n m k c tk bk tt bb/\((inl y∈WB bk/\inl y∈WB bb/\∀H' l,vB H H'->H' l>(nn c)->Q (.ref l) H')\/(inl y∉WB bk/\∀H',vB H H'->E (.ref A.Ak) none H'))
theorem EK (T:QB K mg A):zB P w K mg base A.Aa "told_bank" 3 ["self","bank"] [] (lg A):=by
 let V:=@VV P w K mg base A T;show T.Ee.have we (λvs H Q E D=>?_) ?_
 .let(x,n,m,k,c,N,bk,O,F,U,rfl,_):=D;rfl
 .intro f a2 a1 a4 s H vs Q E L D;let(x,n,m,k,c,N,bk,O,F,U,rfl,j,q):=D;let(J,h1):=j.me;let(Y,h2):=j.h.me;let(Z,a3,h3):=j.k.me;show(_,(OB (AF (uD (SB (oB 0) rfl) T.As V (-L) JB (qB (oB 1) AB)))
   (EB (PB (uD (SB (oB 0) rfl) T.Ai (nK T) (-L) JB (qB (oB 1) AB))))),?_)
  unfold bI;rfl';show(_,J,_,h1,T.Af,T.Aw,_,VG,x.h.p,rfl,Y,_,h2,fG ∅,x.h,rfl,N,bk,j.h,?_);let(B,a0,q)||(B,q):=q
  .show .inl (B,_,J,_,h1,T.Af,T.Ao,_,iG,x.kp,rfl,Z,_,h3,FF ∅,x.kp,x.z,x.e,x.sh,n,m,k,c,O,F,U,rfl,j.k,a0,q)
  .show .inr ⟨B,q _ ZB⟩
theorem Kd.nd {d a:Addr} {H j:Hp} {kvs:Kvs} {o:HO} (k:Kd d H j) (q:H d>(.dK kvs)) (h:H a>o) (n:∀kvs,o≠.dK kvs):j a>o:=k _ _ h (λB=>by rw[B,q] at h;show n _ (lA h).symm)
theorem oC.kd {C q d:Addr} {H j:Hp} {kvs:Kvs} (h:oC C H q) (k:Kd d H j) (B:H d>(.dK kvs)):oC C j q:=let ⟨dx,f,g,e⟩:=h;(dx,f,g,k.nd B e (λο D=>nomatch D))
theorem dC.kd {C P d:Addr} {H B:Hp} {kvs:Kvs} {j:Sn} {n m:Nat} (h:dC C P H j n m) (k:Kd d H B) (q:H d>(.dK kvs)):dC C P B j n m:=by
 let((J,i,h1),(D,h2),(F,h3),L,N,O,U,V):=h;show((J,i,k.nd q h1 (λο j=>nomatch j)),⟨D,k.nd q h2 (λο j=>nomatch j)⟩,⟨F,k.nd q h3 (λο j=>nomatch j)⟩,k.nd q L (λο j=>nomatch j),k.nd q N (λο j=>nomatch j),k.nd q O (λο j=>nomatch j),k.nd q U (λο j=>nomatch j),V)
theorem AE.kd {C B d:Addr} {H q:Hp} {kvs:Kvs} {k:Nat} (h:AE C H B k) (F:Kd d H q) (D:H d>(.dK kvs)):AE C q B k:=let ⟨dx,ra,fa,h1,h2,h3⟩:=h;(dx,ra,fa,F.nd D h1 (λο j=>nomatch j),F.nd D h2 (λο j=>nomatch j),h3)
def WG (A:XB) (H:Hp) (sh:Addr) (tt:Kvs) (d:Addr):Prop:=∀kv∈tt,∀t dx tp,kv.2=.ref t->H t>(.ins A.Aq dx (hG sh tp))->tp≠d
theorem vC.kd {A:XB} {H U:Hp} {e:En} {N:Addr} {k c:Nat} {O V kvs:Kvs} {d:Addr} (h:vC A H e N k c O V) (j:Kd d H U) (F:H d>(.dK kvs)) (a1:e.td≠d) (a2:e.bd≠d) (a3:WG A H N O d):vC A U e N k c O V:=by
 show(let ⟨B,e⟩:=h.me;⟨B,j.nd F e (λο q=>nomatch q)⟩,j _ _ h.t a1,j _ _ h.b a2,h.bk.kd j F,λL J=>?_,λL J=>?_,h.ne)
 .let(t,B,Y,D,W,a0):=h.tb L J;show(t,B,Y,D,j.nd F W (λο q=>nomatch q),j _ _ a0 (a3 L J t B Y D W))
 .let(l,D,Z):=h.bs L J;show(l,D,j.nd F Z (λο q=>nomatch q))
theorem pC.kd {A:XB} {H J:Hp} {N:Addr} {B:Sn} {e:En} {D:Addr} {n m k c:Nat} {F L kvs:Kvs} {d:Addr} (h:pC A H N B e D n m k c F L) (q:Kd d H J) (j:H d>(.dK kvs)) (O:e.td≠d) (U:e.bd≠d) (V:WG A H D F d):pC A J N B e D n m k c F L:=
 (let ⟨dx,kn,e⟩:=h.me;(dx,kn,q.nd j e (λο B=>nomatch B)),h.sn.kd q j,h.en.kd q j O U V,h.sh.kd q j)
def FK (A:XB):Sp:=λvs H Q ο=>∃(p:Addr) (z:Sn) (e:En) (sh:Addr) (n m k c:Nat) (bb:Kvs) (y:Int),vs=[.ref p,.int y]/\pC A H p z e sh n m k c [] bb/\∀v H',pC A H' p z e sh n m k c [(inl y,v)] bb->Kd e.td H H'->(∀t dx tp,v=.ref t->H' t>(.ins A.Aq dx (hG sh tp))->H tp=none)->Q .non H'
theorem MN (T:QB K mg A):zB P w K mg base A.Ab "open_task" 4 ["self","task"] [] (FK A):=by
 show T.Fi.have Sd (λvs H Q E B=>?_) ?_
 .let(a1,B,e,L,n,m,k,c,F,N,rfl,_):=B;rfl
 .intro f a3 a2 a4 s H vs Q E Z B;let(a1,B,e,L,n,m,k,c,F,N,rfl,j,q):=B;let(J,a0,h1):=j.me;let(V,h2):=j.en.me;show(_,(EB (AF (uD (SB (oB 0) rfl) T.Au (uN T) (-Z) JB (qB (oB 1) AB)))),?_);rfl';show(_,J,_,h1,T.Ai,T.Ax,_,KL,e.p,rfl,V,_,h2,JL ∅,e,L,k,c,F,N,rfl,j.en,λv U W D Y=>q v U ((J,a0,D.nd j.en.t h1 (λο B=>nomatch B)),j.sn.kd D j.en.t,W,j.sh.kd D j.en.t) D Y)
def GK (A:XB):Sp:=λvs H Q ο=>∃(p:Addr) (z:Sn) (e:En) (sh:Addr) (n m k c0 c:Nat) (tt:Kvs) (y:Int),vs=[.ref p,.int y,.int c]/\pC A H p z e sh n m k c0 tt []/\c<=64/\WG A H sh tt e.bd/\∀v H',pC A H' p z e sh n m k c tt [(inl y,v)]->Kd e.bd H H'->Q .non H'
theorem NN (T:QB K mg A):zB P w K mg base A.Ab "open_bank" 2 ["self","bank","many"] [] (GK A):=by
 show T.Fj.have Td (λvs H Q E B=>?_) ?_
 .let(a3,B,e,L,n,m,k,F,c,N,O,rfl,_):=B;rfl
 .intro f a5 a4 a6 s H vs Q E a1 B;let(a3,B,e,L,n,m,k,F,c,N,O,rfl,j,a0,Z,q):=B;let(J,a2,h1):=j.me;let(W,h2):=j.en.me;show(_,(EB (AF (uD (SB (oB 0) rfl) T.Au (vN T) (-a1) JB (qB (oB 1) (qB (oB 2) AB))))),?_);rfl';show(_,J,_,h1,T.Ai,T.Ax,_,KL,e.p,rfl,W,_,h2,JL ∅,e,L,k,F,c,N,O,rfl,j.en,a0,Z,λv V Y D=>q v V ((J,a2,D.nd j.en.b h1 (λο B=>nomatch B)),j.sn.kd D j.en.b,Y,j.sh.kd D j.en.b) D)
theorem ON {k:Nat} (h:MJ (WB []) k):k=0:=by
 let h0||h0:=Nat.eq_zero_or_pos k
 .show h0
 .show absurd (h.2 0 h0) (by unfold WB;simp)
def HK (A:XB):Sp:=λvs H Q ο=>∃(x:Mz) (n m k c:Nat),vs=[.ref x.p]/\bC A H x n m k c [] [] [] []/\∀v v' H',bC A H' x n m k c [(inl 0,v)] [] [(inl 0,v')] []->WG A H' x.sh [(inl 0,v')] x.e.bd->WG A H' x.sh [(inl 0,v')] x.h.bd->Q (.int 0) H'
theorem PN (T:QB K mg A):zB P w K mg base A.Aa "new_task" 5 ["self"] [] (HK A):=by
 show T.Fo.have BY (λvs H Q E B=>?_) ?_
 .let(x,n,m,k,c,rfl,_):=B;rfl
 .intro f b4 b3 bb s H vs Q E a0 B;let(x,n,m,k,c,rfl,D,q):=B;let(L,h1):=D.me;let(a6,h2):=D.h.me;let(J,O,U,a5):=D.ap;show(_,(OB (OC (i:=1) BY.nd rfl (Or.inl rfl) (WC (SB (oB 0) rfl) T.As (WV T) (-a0) JB))
   (OB (AF (uD (SB (oB 0) rfl) T.Ai (MN T) (-a0) JB (qB (oB 1) AB)))
   (EB (PB (oB 1))))),?_)
  rfl';show(_,L,_,h1,T.Af,T.Aw,_,VG,x.h.p,rfl,a6,_,h2,fG ∅,x.h,[],[],rfl,D.h,by decide,λj v a3 ah Z k1=>?_);obtain rfl:=ON ah;let F:=D.k.kd k1 D.h.t J.symm O.symm (λb1 h=>by cases h);let Y:=k1.nd D.h.t h1 (λο B=>nomatch B);let(a7,b5,h3):=F.me;show(_,L,_,Y,T.Af,T.Ao,_,iG,x.kp,rfl,a7,_,h3,FF ∅,x.kp,x.z,x.e,x.sh,n,m,k,c,[],0,rfl,F,λa1 N ab k2 ac=>?_);let W:∀{d:Addr} {o:HO},a3 d>o->WG A N x.sh [(inl 0,a1)] d:=λad b1 ap t a8 b2 V a9 B=>by
   rw[AA.mp ap] at V;have:=ac t a8 b2 V a9;rw[B,ad] at this;cases this
  show q v a1 N (⟨L,k2.nd F.en.t Y (λο B=>nomatch B)⟩,Z.kd F.en.t k2 J U,ab,J,O,U,a5) (W F.en.b) (W Z.b)
def IK (A:XB):Sp:=λvs H Q ο=>∃(x:Mz) (n m k c0 c:Nat) (v v':V),vs=[.ref x.p,.int c]/\bC A H x n m k c0 [(inl 0,v)] [] [(inl 0,v')] []/\WG A H x.sh [(inl 0,v')] x.e.bd/\WG A H x.sh [(inl 0,v')] x.h.bd/\1<=c/\c<=64/\∀u u' H',bC A H' x n m k c [(inl 0,v)] [(inl 0,u)] [(inl 0,v')] [(inl 0,u')]->Q (.int 0) H'
theorem QN (T:QB K mg A):zB P w K mg base A.Aa "new_bank" 5 ["self","many"] [] (IK A):=by
 show T.Fp.have CY (λvs H Q E D=>?_) ?_
 .let(x,n,m,k,V,c,v,N,rfl,_):=D;rfl
 .intro f bl be c3 s H vs Q E a3 D;let(x,n,m,k,V,c,v,N,rfl,B,b4,b5,c1,b2,q):=D;let(L,h1):=B.me;let(ab,h2):=B.h.me;let(a9,O,U,J):=B.ap;show(_,(OB (OC (i:=2) CY.nd rfl (Or.inl rfl) (uD (SB (oB 0) rfl) T.As (XV T) (-a3) JB (qB (oB 1) AB)))
   (OB (AF (uD (SB (oB 0) rfl) T.Ai (NN T) (-a3) JB (qB (oB 2) (qB (oB 1) AB))))
   (EB (PB (oB 2))))),?_)
  rfl';show(_,L,_,h1,T.Af,T.Aw,_,VG,x.h.p,rfl,ab,_,h2,fG ∅,x.h,[(inl 0,v)],[],(c:Int),rfl,B.h,by decide,.inl ⟨⋯,λj a6 b3 ap k1=>?_⟩);obtain rfl:=ON b3;let F:=B.k.kd k1 B.h.b U.symm J.symm b5;let a1:=k1.nd B.h.b h1 (λο D=>nomatch D);let(ac,c2,h3):=F.me;let bb:WG A a6 x.sh [(inl 0,N)] x.e.bd:=λa4 a2 t ad bc W ah=>by
   let(t',bm,ca,Y,Z,c0):=B.k.en.tb a4 a2;rw[W] at Y;cases Y;let a0:=k1.nd B.h.b Z (λο D=>nomatch D);rw[ah] at a0;cases a0;show b4 a4 a2 t ad bc W Z
  show(_,L,_,a1,T.Af,T.Ao,_,iG,x.kp,rfl,ac,_,h3,FF ∅,x.kp,x.z,x.e,x.sh,n,m,k,V,c,[(inl 0,N)],0,rfl,F,b2,bb,λbd a7 b1 k2=>?_);show q _ bd a7 (⟨L,k2.nd F.en.b a1 (λο D=>nomatch D)⟩,ap.kd F.en.b k2 O J,b1,a9,O,U,J)
theorem dD {H:Hp} {a:Addr} {o:HO} (h:H a=none):vB H (uB H a o)/\uB H a o a>o:=⟨wC ZB h,KB⟩
inductive Wd (A:XB):Str->Addr->Prop
 |t:Wd A "task" A.Ag
 |b:Wd A "bank" A.Ak
 |s:Wd A "other" A.Ad
def XG (s:Str) (w:Str) (b:Bool):Str:=if b=true then s++w else s
def hZ (A:XB):Sp:=λvs H Q ο=>∃(ea C:Addr) (s:Str),vs=[.ref ea]/\H ea>(lD ea C)/\Wd A s C/\∀H',vB H H'->Q (.str s) H'
theorem iZ (T:QB K mg A):aG P w K mg base "_law_word" 1 ["_law_e"] (hZ A):=by
 show T.Ox.haveH TM (λvs H Q E Y=>?_) ?_
 .let(L,C,s,rfl,_):=Y;rfl
 .intro f ab a8 ah s H vs Q E ad Y;let(L,C,s',rfl,N,a3,q):=Y;obtain⟨j,B,D,O,k1,k2,k3,a5⟩:∃j B D,XI K C/\W.kitOne K (.ref C) (.ref A.Ag)>j/\W.kitOne K (.ref C) (.ref A.Ak)>B/\W.kitAny K (.ref C) ([V.ref A.Ad,V.ref A.Av].map wE)>D/\XG (XG (XG "" "task" j) "bank" B) "other" D=s':=by
   cases a3 with
   |t=>show(true,false,false,T.N1,T.G6,T.G7,(by simp only[CA,List.map_nil,dS,W.kitAny,T.Ft,T.Dh]),∅)
   |b=>show(false,true,false,T.N2,T.G8,T.G9,(by simp only[CA,List.map_nil,dS,W.kitAny,T.Fu,T.Di]),∅)
   |s=>show(false,false,true,T.Bq,T.Fv,T.Fw,(by simp only[CA,List.map_nil,dS,W.kitAny,T.Bf,T.Cu]),∅)
  show(_,(OB (OC (i:=1) TM.nd rfl (Or.inl rfl) OD)
   (ID (BC (MD (kD eS rfl T.An bA (qB (oB 0) (qB (HG rfl T.O0) AB)))) (EB (OC (i:=1) TM.nd rfl (Or.inl rfl) (lC dU (oB 1) OD))) AC)
   (ID (BC (MD (kD eS rfl T.An bA (qB (oB 0) (qB (HG rfl T.O2) AB)))) (EB (OC (i:=1) TM.nd rfl (Or.inl rfl) (lC dU (oB 1) OD))) AC)
   (ID (BC (MD (kD xa rfl T.An bA (qB (oB 0) (qB (QF (qB (HG rfl T.Lb) (qB (HG rfl T.M3) AB))) AB)))) (EB (OC (i:=1) TM.nd rfl (Or.inl rfl) (lC dU (oB 1) OD))) AC)
   (EB (PB (oB 1))))))),?_)
  rfl';show(λJ F=>J=[↑L,some (.str (XG "" "task" j))]/\F=H,?_,λa1 a2=>?_)
  .rfl';show(_,N,O,j,k1,?_);cases j
   .show VB rfl
   .show jC ⟨∅,rfl⟩
  rintro⟨rfl,rfl⟩;show(λJ F=>J=[↑L,some (.str (XG (XG "" "task" j) "bank" B))]/\F=a2,?_,λa1 Z=>?_)
  .rfl';show(_,N,O,B,k2,?_);cases B
   .show VB rfl
   .show jC ⟨by cases j<;>decide+kernel,rfl⟩
  rintro⟨rfl,rfl⟩;show(λJ F=>J=[↑L,some (.str (XG (XG (XG "" "task" j) "bank" B) "other" D))]/\vB Z F,?_,λa1 a9=>?_)
  .rfl';intro a6 a4;let(U,ac):=dD (o:=.tup [V.ref A.Ad,V.ref A.Av]) a4;generalize uB Z a6 (.tup [V.ref A.Ad,V.ref A.Av])=G2 at *;show(_,C,U _ _ N,O,rfl,λap a0=>?_,D,k3,?_)
   .simp only[iA,xA,dB] at a0;let rfl||rfl:=a0<;>show .inl ⟨_,rfl⟩
   cases D
   .show VB ⟨rfl,U⟩
   .show jC (by cases j<;>cases B<;>decide+kernel,rfl,U)
  rintro⟨rfl,a7⟩;rfl';rw[a5];show q _ a7
theorem Wd.sub (T:QB K mg A) {s:Str} {N:Addr} (h:Wd A s N):QE K N A.Ar:=by
 cases h with
 |t=>show T.Cr
 |b=>show T.Cs
 |s=>show T.Ce
theorem mE {H:Hp} {v:V} (h:aW v=true):mD H (.leaf v) v:=by unfold mD;show⟨rfl,h⟩
theorem tS {H:Hp} {v:V} (h:aW v=true):∀n,cC H (List.replicate n (.leaf v)) (List.replicate n v)
 |0=>by unfold cC;rfl
 |n+1=>by
  change cC H (.leaf v::List.replicate n (.leaf v)) (v::List.replicate n v);unfold cC;show(_,_,rfl,mE h,tS h n)
theorem YG {H:Hp} {a:Addr} {n:Nat} (h:H a>(nn n)) (j:n<=64):mD H (.seq false (List.replicate n (.leaf .non))) (.ref a):=by
 unfold mD;show(a,_,rfl,h,by rw[yA];omega,tS rfl n)
theorem wG {H:Hp} {a:Addr} (h:H a>(.lst [])):mD H (.seq false []) (.ref a):=YG (n:=0) h (by decide)
theorem LL (v:V):∀n,eC (List.replicate n (.leaf v))<=RD (.leaf v)
 |0=>by change eC []<=_;rw[eC];show Nat.zero_le _
 |n+1=>by
  change eC (.leaf v::List.replicate n (.leaf v))<=_;rw[eC];show Nat.max_le.mpr ⟨eA _,LL v n⟩
def uS (pr:Bool) (wh:Int) (c:Nat):Dv:=if pr=true then (if wh=3 then .leaf (.int 1) else if wh=4 then .seq false (List.replicate c (.leaf .non)) else .seq false []) else .leaf (.str (if wh=4 then "bank" else "task"))
def jZ (tk bk tt bb:Kvs) (y:Int) (pr:Bool):Prop:=(pr=true/\inl y∈WB tk/\inl y∈WB tt/\inl y∈WB bk/\inl y∈WB bb)\/(pr=false/\inl y∉WB tk/\inl y∉WB bk)
def JK (A:XB):Sp:=λvs H Q ο=>∃(x:Mz) (n m k c:Nat) (tk bk tt bb:Kvs) (wh y:Int) (pr:Bool),vs=[.ref x.p,.int wh,.int y]/\bC A H x n m k c tk bk tt bb/\0<=wh/\wh<=4/\c<=64/\jZ tk bk tt bb y pr/\∀H' r,vB H H'->mD H' (uS pr wh c) r->Q r H'
theorem nI (T:QB K mg A):RC P w K mg base "_law_told_of" 7 ["_law_machine","_law_what","_law_number"] [] (JK A):=by
 show T.M0.have EY (λvs H Q E a9=>?_) ?_
 .let(x,n,m,k,c,W,bk,Y,O,Z,a0,b3,rfl,_):=a9;rfl
 .intro f b5 b4 bc s H vs Q E V a9;let(x,n,m,k,c,W,bk,Y,O,Z,a0,b3,rfl,U,h0,bb,b2,a2,q):=a9;let(a1,h1):=U.me;show(_,(EB (OX (i:=3) EY.nd rfl rfl T.Fs (λο ο ο bd a5=>(OB (BC (rD CF (oB 1) HB (FB _)) (EB (PB (uD (oB 0) T.Af (KN T) (-V) a5 (qB (oB 2) AB)))) AC)
   (OB (BC (rD CF (oB 1) HB (FB _)) (EB (PB (uD (oB 0) T.Af (LN T) (-V) a5 (qB (oB 2) AB)))) AC)
   (OB (BC (rD CF (oB 1) HB (FB _)) (EB (PB (uD (oB 0) T.Af (CK T) (-V) a5 (qB (oB 2) AB)))) AC)
   (OB (BC (rD CF (oB 1) HB (FB _)) (EB (PB (uD (oB 0) T.Af (DK T) (-V) a5 (qB (oB 2) AB)))) AC)
   (EB (PB (uD (oB 0) T.Af (EK T) (-V) a5 (qB (oB 2) AB))))))))) AC (λο=>(EB (PB (gY (iZ T) ((V.h.mono (by decide)).mark) (qB (oB 3) AB))))))),?_)
  obtain rfl|rfl|rfl|rfl|rfl:Z=0\/Z=1\/Z=2\/Z=3\/Z=4:=⋯
  .rfl';show(a1,_,h1,UE ∅,x,n,m,k,c,W,bk,Y,O,a0,rfl,U,?_);let(rfl,j,B,a3,a4)||(rfl,j,B):=a2
   .show .inl (j,B,λa6 l s N=>q _ _ s (wG N))
   .show .inr ⟨j,λa7 J=>(A.Ag,rfl,(Wd.t).sub T,λD F=>(D,A.Ag,_,rfl,KB,.t,λa8 L=>q _ _ (J.trans ((dD F).1.trans L)) (mE rfl)))⟩
  .rfl';show(a1,_,h1,UE ∅,x,n,m,k,c,W,bk,Y,O,a0,rfl,U,?_);let(rfl,j,B,a3,a4)||(rfl,j,B):=a2
   .show .inl (j,B,λa6 l s N=>q _ _ s (wG N))
   .show .inr ⟨j,λa7 J=>(A.Ag,rfl,(Wd.t).sub T,λD F=>(D,A.Ag,_,rfl,KB,.t,λa8 L=>q _ _ (J.trans ((dD F).1.trans L)) (mE rfl)))⟩
  .rfl';show(a1,_,h1,UE ∅,x,n,m,k,c,W,bk,Y,O,a0,rfl,U,?_);let(rfl,j,B,a3,a4)||(rfl,j,B):=a2
   .show .inl (j,B,λa6 l s N=>q _ _ s (wG N))
   .show .inr ⟨j,λa7 J=>(A.Ag,rfl,(Wd.t).sub T,λD F=>(D,A.Ag,_,rfl,KB,.t,λa8 L=>q _ _ (J.trans ((dD F).1.trans L)) (mE rfl)))⟩
  .rfl';show(a1,_,h1,UE ∅,x,n,m,k,c,W,bk,Y,O,a0,rfl,U,?_);let(rfl,j,B,a3,a4)||(rfl,j,B):=a2
   .show .inl (j,B,λa6 s=>q _ _ s (mE rfl))
   .show .inr ⟨j,λa7 J=>(A.Ag,rfl,(Wd.t).sub T,λD F=>(D,A.Ag,_,rfl,KB,.t,λa8 L=>q _ _ (J.trans ((dD F).1.trans L)) (mE rfl)))⟩
  .rfl';show(a1,_,h1,UE ∅,x,n,m,k,c,W,bk,Y,O,a0,rfl,U,?_);let(rfl,j,B,a3,a4)||(rfl,j,B):=a2
   .show .inl (a3,a4,λa6 l s N=>q _ _ s (YG N b2))
   .show .inr ⟨B,λa7 J=>(A.Ak,rfl,(Wd.b).sub T,λD F=>(D,A.Ak,_,rfl,KB,.b,λa8 L=>q _ _ (J.trans ((dD F).1.trans L)) (mE rfl)))⟩
def sp_lsz:Sp:=λvs H Q ο=>∃(c lo:Int),vs=[.int c,.int lo]/\0<=lo/\lo<=1/\∀i H',vB H H'->Q (.int i) H'
theorem RN (T:QB K mg A):RC P w K mg base "_law_size" 1 ["_law_cell","_law_low"] [] sp_lsz:=by
 show T.Ov.have LV (λvs H Q E D=>?_) ?_
 .let(c,lo,rfl,_):=D;rfl
 .intro f O N W s H vs Q E U D;let(c,lo,rfl,h0,h1,q):=D;show(_,(OB (OC (i:=2) LV.nd rfl (Or.inl rfl) (lC BF (oB 0) HB))
   (OB (OC (i:=3) LV.nd rfl (Or.inl rfl) (lC aX (oB 0) HB))
   (OB (BC (rD CF (oB 2) HB (FB _)) (EB (PB (BD aS (AD (qB (lC lM (oB 1) HB) (qB HB AB))) (lC BF (oB 3) HB) (λο ο=>rfl)))) AC)
   (OB (BC (rD CF (oB 2) HB (FB _)) (EB (PB (BD aS (AD (qB (lC lM (lC lM (oB 1) HB) (lC BF (oB 3) (lC QR HB HB))) (qB (lC CH HB (lC BF (oB 3) (lC QR HB HB))) AB))) (lC BF (oB 3) HB) (λο ο=>rfl)))) AC)
   (EB (PB (lC CH (oB 1) (lC BF (oB 3) (lC lM HB (oB 1)))))))))),?_)
  rfl';let J:∀(a j:Int) (B:Addr),H B=none->∃x,tD [V.int a,V.int j] (c / 7 % 2)>x/\Q x (uB H B (.lst [V.int a,V.int j])):=λa j B L=>by
   show CM ⋯ (by change _ < (2:Int);omega) λv F=>?_;obtain⟨i,rfl⟩:∃i:Int,v=.int i:=by
    simp only[iA,xA,dB] at F;let rfl||rfl:=F<;>show⟨_,rfl⟩
   show q _ _ (wC ZB L)
  show PD (λο=>J _ _) (λο=>PD (λο=>J _ _) (λο=>⟨⋯,q _ _ ZB⟩))
theorem LK {H:Hp} {t:Addr} {xs:!V} {j:!Dv} (h:H t>(.tup xs)) (q:j.length < 16777216) (h2:cC H j xs):mD H (.seq true j) (.ref t):=by unfold mD;show(t,xs,rfl,h,q,h2)
theorem pE {H:Hp} {x:V} {xs:!V} {d:Dv} {j:!Dv} (h:mD H d x) (h2:cC H j xs):cC H (d::j) (x::xs):=by unfold cC;show(x,xs,rfl,h,h2)
theorem SN {H:Hp}:cC H [] []:=by unfold cC;rfl
theorem vS {l:Addr} {k:Nat} {H:Hp} {Q:VK} (B:H l>(.lst [V.non])) (F:k<=64) (q:∀j,H j=none->Q (.ref j) (uB H j (nn k))):rRep (.ref l) (.int (k:Int)) H Q:=by
 unfold rRep;show(l,k,[.non],rfl,rfl,B,⋯,⋯,by rw[PySem.sizeLine_eq];change 1 * _<=_;omega,λj D=>?_);rw[QA,aN];show q j D
def kZ (p sz:Addr) (D:Dv) (H:Hp) (σ:L2.St) (G:Hp):Prop:=∃t,σ=[↑p,↑sz,↑t]/\vB H G/\mD G D (.ref t)
def MK (A:XB):Sp:=λvs H Q ο=>∃(x:Mz) (n m k c:Nat) (sz:Addr),vs=[.ref x.p,.ref sz]/\bC A H x n m k c [] [] [] []/\k<=64/\H sz>(.lst [.int n,.int m,.int k])/\∀H',vB H H'->Q (.bl true) H'
theorem TN (T:QB K mg A):RC P w K mg base "_law_new" 6 ["_law_machine","_law_sizes"] [] (MK A):=by
 show T.Pk.have QV (λvs H Q E ca=>?_) ?_
 .let(x,n,m,k,c,sz,rfl,_):=ca;rfl
 .intro f f0 ew f1 s H vs Q E D ca;let cd:=@bW P w K mg base A T 3;let(x,n,m,k,c,sz,rfl,B,b1,b5,q):=ca;let(J,h1):=B.me;let(b3,b2):=B.k.sn.len;show(_,(ID (OC (i:=2) QV.nd rfl (Or.inl rfl) (QF (qB (WC (oB 0) T.Af (HN T) (-D) JB) (qB (WC (oB 0) T.Af (IN T) (-D) JB) (qB (WC (oB 0) T.Af (FN T) (-D) JB) (qB (WC (oB 0) T.Af (tK T) (-D) JB) AB))))))
   (OB (BC (WE (MD (CC cd (-D) JB (qB (oB 2) (qB (QF (qB (AD AB) (qB (AD AB) (qB (lC IH (AD (qB oE AB)) (BD FE (oB 1) HB (λο ο=>rfl))) (qB (lC IH (AD (qB oE AB)) (BD FE (oB 1) HB (λο ο=>rfl))) AB))))) AB))))) (EB (PB zF)) AC)
   (ID (OC (i:=2) QV.nd rfl (Or.inl rfl) (QF (qB (WC (oB 0) T.Af (wK T) (-D) JB) (qB (WC (oB 0) T.Af (uK T) (-D) JB) (qB (WC (oB 0) T.Af (GN T) (-D) JB) (qB (WC (oB 0) T.Af (EN T) (-D) JB) AB))))))
   (EB (PB (CC cd (-D) JB (@qB _ _ _ _ _ (oB 2) (@qB _ _ _ _ _ (@QF _ _ _ _ _ (@qB _ _ _ _ _ (lC IH (AD (qB oE AB)) (BD FE (oB 1) HB (λο ο=>rfl))) (@qB _ _ _ _ _ HB (@qB _ _ _ _ _ (@QF _ _ _ _ _ (@qB _ _ _ _ _ HB (@qB _ _ _ _ _ HB (@qB _ _ _ _ _ HB (@qB _ _ _ _ _ HB (@qB _ _ _ _ _ HB (@qB _ _ _ _ _ HB (@qB _ _ _ _ _ HB (@qB _ _ _ _ _ HB (@qB _ _ _ _ _ HB AB rfl) rfl) rfl) rfl) rfl) rfl) rfl) rfl) rfl)) (@qB _ _ _ _ _ HB AB rfl) rfl) rfl) rfl)) AB rfl) rfl))))))),?_)
  show(kZ x.p sz (.seq true [.seq false [],.seq false [],.seq false (List.replicate n (.leaf .non)),.seq false (List.replicate m (.leaf .non))]) H,?_,λf3 dk=>?_)
  .rfl';show(J,_,h1,UE ∅,x,n,m,k,c,rfl,B,λdp bc N ad=>?_);show(J,_,N _ _ h1,UE ∅,x,n,m,k,c,rfl,B.same N,λey et co ej=>?_);let bm:=N.trans co;show(J,_,bm _ _ h1,UE ∅,x,n,m,k,c,[],[],[],[],rfl,B.same bm,λdr bd F ah=>?_);let c0:=bm.trans F;show(J,_,c0 _ _ h1,UE ∅,x,n,m,k,c,[],[],[],[],rfl,B.same c0,λdt ev O ek=>?_);intro t b4;let(j,ap):=dD (o:=.tup [V.ref bc,V.ref et,V.ref bd,V.ref ev]) b4;let cs:=F.trans O;show(t,rfl,(c0.trans O).trans j,LK ap (by change 4 < _;decide) (pE (wG (j _ _ (cs _ _ (co _ _ ad)))) (pE (wG (j _ _ (cs _ _ ej))) (pE (YG (j _ _ (O _ _ ah)) b3) (pE (YG (j _ _ ek) b2) SN)))))
  rintro⟨t,rfl,N,em⟩;rfl';intro a1 a8;let(U,k1):=dD (o:=.lst []) a8;generalize uB dk a1 (.lst [])=F1 at *;intro a2 a9;let(W,k2):=dD (o:=.lst []) a9;generalize uB F1 a2 (.lst [])=F2 at *;intro e2 ab;let(Y,k3):=dD (o:=.lst [V.non]) ab;generalize uB F2 e2 (.lst [V.non])=F3 at *;let F:=N.trans (U.trans (W.trans Y));show(_,RB.of (F _ _ b5),_,pG,vS k3 b3 λa3 ac=>?_);let(L,bb):=dD (o:=nn n) ac;generalize uB F3 a3 (nn n)=F4 at *;intro e3 e7;let(ck,k5):=dD (o:=.lst [V.non]) e7;generalize uB F4 e3 (.lst [V.non])=F5 at *;let j:=F.trans (L.trans ck);show(_,RB.of (j _ _ b5),_,qG,vS k5 b2 λa4 ea=>?_);let(ef,eo):=dD (o:=nn m) ea;generalize uB F5 a4 (nn m)=F6 at *;intro e4 eb;let(cl,eq):=dD (o:=.tup [V.ref a1,V.ref a2,V.ref a3,V.ref a4]) eb;generalize uB F6 e4 (.tup [V.ref a1,V.ref a2,V.ref a3,V.ref a4])=F7 at *;let c2:=ck.trans (ef.trans cl);let c1:=Y.trans (L.trans c2);show(_,_,_,rfl,em.same (U.trans (W.trans c1)),LK eq (by change 4 < _;decide) (pE (wG (c1 _ _ (W _ _ k1))) (pE (wG (c1 _ _ k2)) (pE (YG (c2 _ _ bb) b3) (pE (YG (cl _ _ eo) b2) SN)))),?_,λch c3=>(true,rfl,?_))
  .let a6:=LL .non n;let a7:=LL .non m;simp only[RD,eC] at a6 a7 ⊢;omega
  rw[kA (by decide)];let be:vB H ch:=F.trans (L.trans (c2.trans c3));show(kZ x.p sz (.seq true [.seq false (List.replicate k (.leaf .non)),.leaf (.int 0),.seq true (List.replicate 9 (.leaf (.int 0))),.leaf (.int 0)]) H,?_,λf4 dl=>?_)
  .rfl';show(J,_,be _ _ h1,UE ∅,x,n,m,k,c,[],[],[],[],rfl,B.same be,λdp bc N ad=>?_);let a0:=be.trans N;show(J,_,a0 _ _ h1,UE ∅,x,n,m,k,c,[],[],[],[],rfl,B.same a0,?_);show(J,_,a0 _ _ h1,UE ∅,x,n,m,k,c,[],[],[],[],rfl,B.same a0,λdr bd F ah=>?_);let bl:=a0.trans F;show(J,_,bl _ _ h1,UE ∅,x,n,m,k,c,[],[],[],[],rfl,B.same bl,λdt O=>?_);intro t b4;let(j,ap):=dD (o:=.tup [V.ref bc,V.int 0,V.ref bd,V.int 0]) b4;show(t,rfl,(bl.trans O).trans j,LK ap (by change 4 < _;decide) (pE (YG (j _ _ (O _ _ (F _ _ ad))) b1) (pE (mE rfl) (pE (LK (j _ _ (O _ _ ah)) (by change 9 < _;decide) (tS rfl 9)) (pE (mE rfl) SN)))))
  rintro⟨f2,rfl,d1,en⟩;rfl';intro e5 a8;let(U,k1):=dD (o:=.lst [V.non]) a8;generalize uB dl e5 (.lst [V.non])=F1 at *;show(_,RB.of (U _ _ (d1 _ _ b5)),_,OG,vS k1 b1 λa5 a9=>?_);let(W,k2):=dD (o:=nn k) a9;generalize uB F1 a5 (nn k)=F2 at *;intro Z ab;let(Y,k3):=dD (o:=.tup (List.replicate 9 (V.int 0))) ab;let ec:uB F2 Z (.tup [V.int 0,V.int 0,V.int 0,V.int 0,V.int 0,V.int 0,V.int 0,V.int 0,V.int 0])=uB F2 Z (.tup (List.replicate 9 (V.int 0))):=rfl;rw[ec];generalize uB F2 Z (.tup (List.replicate 9 (V.int 0)))=F3 at *;intro e6 ac;let(L,bb):=dD (o:=.tup [V.ref a5,V.int 0,V.ref Z,V.int 0]) ac;generalize uB F3 e6 (.tup [V.ref a5,V.int 0,V.ref Z,V.int 0])=F4 at *;show(_,_,_,rfl,en.same (U.trans (W.trans (Y.trans L))),LK bb (by change 4 < _;decide) (pE (YG (L _ _ (Y _ _ k2)) b1) (pE (mE rfl) (pE (LK (L _ _ k3) (by change 9 < _;decide) (tS rfl 9)) (pE (mE rfl) SN)))),?_,λch c3=>q _ (d1.trans (U.trans (W.trans (Y.trans (L.trans c3))))));let a6:=LL .non k;let a7:=LL (.int 0) 9;simp only[RD,eC] at a6 a7 ⊢;omega
def lZ (p:Addr) (y:Int) (c:Nat) (wh:Int) (D:Dv) (H:Hp) (σ:L2.St) (G:Hp):Prop:=∃r,σ=[↑p,some (.int y),some (.int (c:Int)),some (.int wh),some r]/\vB H G/\mD G D r
def NK (A:XB):Sp:=λvs H Q ο=>∃(x:Mz) (n m k c:Nat) (tk bk tt bb:Kvs) (y:Int),vs=[.ref x.p,.int y,.int c]/\bC A H x n m k c tk bk tt bb/\1<=c/\c<=64/\jZ tk bk tt bb y (decide (y=0))/\∀H',vB H H'->Q (.bl true) H'
theorem UN (T:QB K mg A):RC P w K mg base "_law_none" 8 ["_law_machine","_law_number","_law_many"] [] (NK A):=by
 show T.Oy.have nS (λvs H Q E a5=>?_) ?_
 .let(x,n,m,k,c,b1,bk,b2,a8,D,rfl,_):=a5;rfl
 .intro f de d1 dk s H vs Q E ac a5;let b3:=@bW P w K mg base A T 2;let(x,n,m,k,c,b1,bk,b2,a8,D,rfl,ch,dh,a1,ck,q):=a5;show(_,(OB (CL SA rfl (OR rfl T.Gx (qB HB AB)) (GE (i:=3) nS.nd rfl (Or.inl rfl)) (@ID _ _ _ _ _ (@OC _ _ 4 _ _ _ _ nS.nd rfl (Or.inl rfl) (@BD _ _ _ _ _ _ _ aS (@AD _ _ _ _ (@qB _ _ _ _ _ (AD AB) (@qB _ _ _ _ _ (AD AB) (@qB _ _ _ _ _ (AD AB) (@qB _ _ _ _ _ HB (@qB _ _ _ _ _ (lC IH (AD (qB oE AB)) (oB 2)) AB rfl) rfl) rfl) rfl) rfl)) (oB 3) (λο ο=>rfl)) rfl (Or.inl rfl))
   (ID (BC (rD SR (oB 1) HB (FB _)) (EB (@OC _ _ 4 _ _ _ _ nS.nd rfl (Or.inl rfl) (@BD _ _ _ _ _ _ _ aS (@AD _ _ _ _ (@qB _ _ _ _ _ OD (@qB _ _ _ _ _ OD (@qB _ _ _ _ _ OD (@qB _ _ _ _ _ OD (@qB _ _ _ _ _ OD AB rfl) rfl) rfl) rfl) rfl)) (oB 3) (λο ο=>rfl)) rfl (Or.inl rfl))) AC)
   (EB (BC (WE (MD (CC b3 (-ac) JB (qB (CC (nI T) (-ac) JB (qB (oB 0) (qB (oB 3) (qB (oB 1) AB)))) (qB (oB 4) AB))))) (EB (PB zF)) AC)))))
   (EB (PB zF))),?_)
  rfl';show bS (λi a6 L=>∃a3 a4,a6=[↑x.p,some (.int D),some (.int (c:Int)),a3,a4]/\vB H L) (_,_,rfl,ZB) (λi a6 L ab=>?_) (λa6 L=>?_);rotate_left
  .rintro⟨a3,a4,rfl,a2⟩;rfl';show q _ a2
  rintro⟨a3,a4,rfl,a2⟩;let ab:i < 5:=ab;show(lZ x.p D c (0+(i:Int)) (uS true (0+(i:Int)) c) H,?_,λdr d2=>?_)
  .rfl';intro O bc;let(c0,k1):=dD (o:=.lst []) bc;generalize uB L O (.lst [])=F1 at *;intro U bd;let(a9,k2):=dD (o:=.lst []) bd;generalize uB F1 U (.lst [])=F2 at *;intro W be;let(a0,k3):=dD (o:=.lst []) be;generalize uB F2 W (.lst [])=F3 at *;intro b5 bl;let(c1,cl):=dD (o:=.lst [V.non]) bl;generalize uB F3 b5 (.lst [V.non])=F4 at *;show vS cl a1 λY bm=>?_;let(c2,k5):=dD (o:=nn c) bm;generalize uB F4 Y (nn c)=F5 at *;intro a7 Z;let(B,co):=dD (o:=.lst [V.ref O,V.ref U,V.ref W,V.int 1,V.ref Y]) Z;generalize uB F5 a7 (.lst [V.ref O,V.ref U,V.ref W,V.int 1,V.ref Y])=F6 at *;let N:=c1.trans (c2.trans B);let J:=a2.trans (c0.trans (a9.trans (a0.trans N)));obtain rfl|rfl|rfl|rfl|rfl:i=0\/i=1\/i=2\/i=3\/i=4:=⋯
   .show(_,(pG:tD _ (0:Int)=_),_,rfl,J,wG (N _ _ (a0 _ _ (a9 _ _ k1))))
   .show(_,(qG:tD _ (1:Int)=_),_,rfl,J,wG (N _ _ (a0 _ _ k2)))
   .show(_,(OG:tD _ (2:Int)=_),_,rfl,J,wG (N _ _ k3))
   .show(_,(OT:tD _ (3:Int)=_),_,rfl,J,mE rfl)
   .show(_,(XE (j:=4) rfl:tD _ ((4:Nat):Int)=_),_,rfl,J,YG (B _ _ k5) a1)
  rintro⟨r,rfl,F,c3⟩;show(lZ x.p D c (0+(i:Int)) (uS (decide (D=0)) (0+(i:Int)) c) H,?_,λdt d3=>?_)
  .rfl';by_cases ad:D=0
   .rw[DA ad];show VB (_,rfl,F,c3)
   rw[GA ad];show jC λa7 Z=>?_;let(B,co):=dD (o:=.lst [V.str "task",V.str "task",V.str "task",V.str "task",V.str "bank"]) Z;obtain rfl|rfl|rfl|rfl|rfl:i=0\/i=1\/i=2\/i=3\/i=4:=⋯
   .show(_,(pG:tD _ (0:Int)=_),_,rfl,F.trans B,mE rfl)
   .show(_,(qG:tD _ (1:Int)=_),_,rfl,F.trans B,mE rfl)
   .show(_,(OG:tD _ (2:Int)=_),_,rfl,F.trans B,mE rfl)
   .show(_,(OT:tD _ (3:Int)=_),_,rfl,F.trans B,mE rfl)
   .show(_,(XE (j:=4) rfl:tD _ ((4:Nat):Int)=_),_,rfl,F.trans B,mE rfl)
  rintro⟨dl,rfl,ah,ca⟩;rfl';show(x,n,m,k,c,b1,bk,b2,a8,0+(i:Int),D,decide (D=0),rfl,ch.same ah,⋯,⋯,a1,ck,λdb dp ap cd=>?_);show(_,_,_,rfl,cd,ca.same ap,?_,λdd cs=>(true,rfl,?_))
  .let bb:=LL .non c;unfold uS
   split
   .split
    .show Nat.zero_le _
    split
    .simp only[RD,eC] at bb ⊢;omega
    .simp only[RD,eC];omega
   .show Nat.zero_le _
  show VB (ah.trans (ap.trans cs))
def vW (A:XB) (a sh sz:Addr) (n m:Int) (H:Hp) (σ:L2.St) (G:Hp):Prop:=∃(k:Int) (mv:V) (b:Bool),σ=[↑a,↑sh,↑sz,some mv,some (.bl b),none,none,none]/\vB H G/\G sz>(.lst [.int n,.int m,.int k])/\
 ((vG n m k/\∃x:Mz,mv=.ref x.p/\b=false/\bC A G x n.toNat m.toNat k.toNat 0 [] [] [] [])\/(¬vG n m k/\mv=.non/\b=true))
def ng (A:XB) (a sh sz:Addr) (n m:Int) (H:Hp) (σ:L2.St) (G:Hp):Prop:=∃(k:Int) (x:Mz),vG n m k/\σ=[↑a,↑sh,↑sz,↑x.p,some (.bl false),none,none,none]/\vB H G/\G sz>(.lst [.int n,.int m,.int k])/\bC A G x n.toNat m.toNat k.toNat 0 [] [] [] []
def oI (K:W.Frag):Sp:=λvs H Q ο=>∃(a:Addr) (ns:!Int),vs=[.ref a]/\RB K H a (ns.map V.int)/\ns.length<=63/\∀H',Q (.bl true) H'
theorem og {f:Int} (h:1<=f/\f<=8):SE (V.int 2) (V.int f) (V.int 0)=true:=by
 unfold SE;rw[sJ,sJ,sJ,DA h.1,DA h.2]
 rfl
theorem qg (T:QB K mg A):QD P w K mg base "law" oS ["_law_script","_law_shape","_law_sizes","_law_machine","_law_refused","_law_e","_law_number","_law_many"] 16 (oI K):=by
 let e4:=@JJ P w K mg base A T;let bb:=@RN P w K mg base A T;let dl:=@bW P w K mg base A T 2;intro f gr gc h4 s H vs Q E j J;let(a,ns,rfl,a4,gs,a7):=J;let a2:=@LJ P w K mg base A T a ns;show(_,(OB (OC (i:=1) EF.nd rfl (Or.inl rfl) (VF e4 (-j) JB (qB HB (qB (lC CH HB (lC BF (CC a2 (-j) JB (qB (oB 0) (qB HB AB))) HB)) (qB HB AB)))))
   (OB (OC (i:=2) EF.nd rfl (Or.inl rfl) (AD (qB (CC bb (-j) JB (qB (CC a2 (-j) JB (qB (oB 0) (qB HB AB))) (qB HB AB))) (qB (CC bb (-j) JB (qB (CC a2 (-j) JB (qB (oB 0) (qB HB AB))) (qB HB AB))) AB))))
   (OB (AF (HH PySem.F.plainAttrs_list PySem.F.slot_list_append PySem.F.type_list_append ET (oB 2) (qB (CC bb (-j) JB (qB (CC a2 (-j) JB (qB (oB 0) (qB HB AB))) (qB HB AB))) AB)))
   (OB (OC (i:=3) EF.nd rfl (Or.inl rfl) oE)
   (OB (OC (i:=4) EF.nd rfl (Or.inl rfl) zF)
   (ID (OX (i:=5) EF.nd rfl rfl T.Fs (λο ο ο h5 c1=>(EB (BC (rD CF (lC BF (CC a2 (-j) c1 (qB (oB 0) (qB HB AB))) HB) HB (FB _)) (OB (bJ HB (ZI (oB 2) HB i9))
   (EB (OC (i:=3) EF.nd rfl (Or.inl rfl) (VF (qK T) (-j) c1 (qB (oB 1) (qB (BD (IM (K:=K) rfl) (oB 2) HB (λο ο=>rfl)) (qB (BD (IM (K:=K) rfl) (oB 2) HB (λο ο=>rfl)) AB))))))) (EB (OC (i:=3) EF.nd rfl (Or.inl rfl) (VF (DN T) (-j) c1 (qB (oB 1) (qB (BD (IM (K:=K) rfl) (oB 2) HB (λο ο=>rfl)) (qB (BD (IM (K:=K) rfl) (oB 2) HB (λο ο=>rfl)) (qB (BD (IM (K:=K) rfl) (oB 2) HB (λο ο=>rfl)) AB)))))))))) AC (λο=>(EB (OC (i:=4) EF.nd rfl (Or.inl rfl) (wH (kD eS rfl T.An bA (qB (oB 5) (qB (HG rfl T.Lb) AB))) (wH (kD eS rfl T.An bA (qB (oB 5) (qB (YE (n:="ValueError") rfl T.Lw ∅) AB))) (wL (mM CF (gY (iZ T) ((j.h.mono (by decide)).mark) (qB (oB 5) AB)) OD (FB _)))))))))
   (ID (BC (PW.pt (VI (rD TR (BD FE (oB 2) HB (λο ο=>rfl)) HB (FB _)) (VI (rD tT (BD FE (oB 2) HB (λο ο=>rfl)) HB (FB _)) (VI (rD TR (BD FE (oB 2) HB (λο ο=>rfl)) HB (FB _)) (VI (rD tT (BD FE (oB 2) HB (λο ο=>rfl)) HB (FB _)) (VI (rD TR (BD FE (oB 2) HB (λο ο=>rfl)) HB (FB _)) (kT (rD tT (BD FE (oB 2) HB (λο ο=>rfl)) HB (FB _))))))))) (EB (PB (oB 4))) AC)
   (OB (BC (PW.pt (VI (rD UR (oB 3) oE (FB _)) (kT (WE (MD (CC (TN T) (-j) JB (qB (oB 3) (qB (oB 2) AB)))))))) (EB (PB zF)) AC)
   (OB (OC (i:=6) EF.nd rfl (Or.inl rfl) (AD (qB HB (qB (lC lM (gM oJ HB) (lC BF (CC a2 (-j) JB (qB (oB 0) (qB HB AB))) (lC QR HB HB))) (qB (lC CH HB (lC BF (CC a2 (-j) JB (qB (oB 0) (qB HB AB))) (lC QR HB HB))) AB)))))
   (OB (OC (i:=6) EF.nd rfl (Or.inl rfl) (BD FE (oB 6) (lC BF (lC aX (CC a2 (-j) JB (qB (oB 0) (qB HB AB))) HB) HB) (λο ο=>rfl)))
   (OB (BC (PW.pt (VI (rD SR (CC (nI T) (-j) JB (qB (oB 3) (qB HB (qB HB AB)))) OD (FB _)) (kT (rD SR (CC (nI T) (-j) JB (qB (oB 3) (qB HB (qB HB AB)))) OD (FB _))))) (EB (PB zF)) AC)
   (OB (OC (i:=7) EF.nd rfl (Or.inl rfl) (lC CH HB (lC BF (CC a2 (-j) JB (qB (oB 0) (qB HB AB))) HB)))
   (OB (BC (WE (MD (CC dl (-j) JB (qB (QF (qB (WC (oB 3) T.Af (PN T) (-j) JB) (qB (uD (oB 3) T.Af (QN T) (-j) JB (qB (oB 7) AB)) AB))) (qB (QF (qB HB (qB HB AB))) AB))))) (EB (PB zF)) AC)
   (EB (PB (CC (UN T) (-j) JB (qB (oB 3) (qB (oB 6) (qB (oB 7) AB))))))))))))))))))),?_)
 unfold HY eG sp_lsz;rfl';show⟨a4,λF q fl O W=>?_⟩;rw[vA (og ⋯)];let a1:vB H (uB (uB H q (.own F)) F (.ins A.Al q (dG 2 (1+ns.getD 0 0 % 8) 0))):=λc o h=>by rw[IB (NC h fl),IB (NC h O)];show h
 let d1:oC A.Al (uB (uB H q (.own F)) F (.ins A.Al q (dG 2 (1+ns.getD 0 0 % 8) 0))) F:=(q,_,_,KB)
 generalize uB (uB H q (.own F)) F (.ins A.Al q (dG 2 (1+ns.getD 0 0 % 8) 0))=ap at *;show⟨a1.seq a4,λn Z Y=>⟨(a1.trans Y).seq a4,λm ca a8 sz hsz=>?_⟩⟩;let(ad,cl):=dD (o:=.lst [V.int n,V.int m]) hsz;let d3:H sz=none:=GL (a1.trans (Y.trans a8)) hsz;generalize uB ca sz (.lst [V.int n,V.int m])=cd at *;let de:=a1.trans (Y.trans (a8.trans ad));show(.inl (rfl,_,RB.of cl),de.seq a4,λk a6 ah=>(_,ah _ _ cl,by change 2 < _;decide,?_));let d2:ap sz=none:=GL (Y.trans a8) hsz;let b3:vB H (uB a6 sz (.lst ([V.int n,V.int m]++[V.int k]))):=FL (de.trans ah) d3;let dh:vB ap (uB a6 sz (.lst ([V.int n,V.int m]++[V.int k]))):=FL (Y.trans (a8.trans (ad.trans ah))) d2;let a9:uB a6 sz (.lst ([V.int n,V.int m]++[V.int k])) sz>(.lst [V.int n,V.int m,V.int k]):=KB;let f6:=d1.same dh;change BM _ _ _ _ _ (uB a6 sz (.lst ([V.int n,V.int m]++[V.int k])));generalize uB a6 sz (.lst ([V.int n,V.int m]++[V.int k]))=b5 at *;let mk:∀(B:Int) (L:Hp),vB H L->oC A.Al L F->L sz>(.lst [V.int n,V.int m,V.int B])->∀x q,L x=none->L q=none->q≠x->∀(bc:VK) (b4:XK),
   (∀Z,vW A a F sz n m H [↑a,↑F,↑sz,↑x,some (.bl false),none,none,none] Z->bc .non Z)->(¬vG n m B->b4 (.ref A.Ad) none (uB (uB L q (.own x)) x (.ins A.Aa q [])))->
   CN A [.ref x,.ref F,.int n,.int m,.int B] (uB (uB L q (.own x)) x (.ins A.Aa q [])) bc b4:=λB L b2 bm c0 x q a0 O W bc b4 g4 g5=>by
  show(x,q,F,n,m,B,rfl,KB,bm.same (NG a0 O W),?_);by_cases D:vG n m B
  .rw[vA D];intro Z a5 ab ac g0;subst ac;let a1:=Kp.made a0 O W g0;show g4 Z (B,_,false,rfl,b2.trans a1,a1 _ _ c0,.inl (D,a5,rfl,rfl,ab))
  .rw[kA D];show g5 D
 let ch:∀(B:Int) (L:Hp),vB H L->L sz>(.lst [V.int n,V.int m,V.int B])->¬vG n m B->∀U,L U=none->hZ A [.ref U] (uB L U (lD U A.Ad)) (λx ap=>eF x (V.str "other")=true/\vW A a F sz n m H [↑a,↑F,↑sz,some V.non,some (V.bl (decide (x=V.str "other"))),none,none,none] ap) (λο ο ο=>False):=λB L b2 c0 D U b1=>by
  let(a1,en):=dD (o:=lD U A.Ad) b1;show(U,A.Ad,_,rfl,en,.s,λZ Y=>(rfl,B,.non,true,by rw[DA rfl],b2.trans (a1.trans Y),Y _ _ (a1 _ _ c0),.inr (D,rfl,rfl)))
 show(vW A a F sz n m H,?_,λh7 gd=>?_)
 .rfl';show⟨b3.seq a4,PD (λο=>?_) (λο=>?_)⟩
  .let dk:vB H (uB b5 sz (.lst [V.int n,V.int m,V.int 0])):=FL b3 d3;let g7:vB ap (uB b5 sz (.lst [V.int n,V.int m,V.int 0])):=FL dh d2;show(_,a9,2,rfl,_,RB.of KB,_,pG,_,RB.of KB,_,qG,λx q a0 O W=>mk 0 _ dk (d1.same g7) KB x q a0 O W _ _ (λZ h=>⟨rfl,h⟩) (λD=>(A.Ad,rfl,(Wd.s).sub T,λU b1=>(T.Bq,true,T.Bf,jC (T.Bq,true,T.Bj,jC (ch 0 _ (dk.trans (NG a0 O W)) ((NG a0 O W) _ _ KB) D U b1))))))
  .show(_,RB.of a9,_,pG,_,RB.of a9,_,qG,_,RB.of a9,_,OG,λx q a0 O W=>mk k _ b3 f6 a9 x q a0 O W _ _ (λZ h=>⟨rfl,h⟩) (λD=>(A.Ad,rfl,(Wd.s).sub T,λU b1=>(T.Bq,true,T.Bf,jC (T.Bq,true,T.Bj,jC (ch k _ (b3.trans (NG a0 O W)) ((NG a0 O W) _ _ a9) D U b1))))))
 rintro⟨B,gt,go,rfl,g9,N,f7⟩;show(ng A a F sz n m H,?_,λh8 ge=>?_)
 .rfl';let(D,x,rfl,rfl,ab)||(D,rfl,rfl):=f7
  .let((et,ev),(ew,ey),f0,f1):=id D;show(_,RB.of N,_,pG,n,rfl,?_);rw[kA ⋯];show(_,RB.of N,_,pG,n,rfl,?_);rw[kA ⋯];show(_,RB.of N,_,qG,m,rfl,?_);rw[kA ⋯];show(_,RB.of N,_,qG,m,rfl,?_);rw[kA ⋯];show(_,RB.of N,_,OG,B,rfl,?_);rw[kA ⋯];show(_,RB.of N,_,OG,B,rfl,?_);rw[kA ⋯];show(B,x,D,rfl,g9,N,ab)
  .show(_,RB.of N,_,pG,n,rfl,PD (λο=>a7 _) λο=>(_,RB.of N,_,pG,n,rfl,PD (λο=>a7 _) λο=>(_,RB.of N,_,qG,m,rfl,PD (λο=>a7 _) λο=>(_,RB.of N,_,qG,m,rfl,PD (λο=>a7 _) λο=>(_,RB.of N,_,OG,B,rfl,PD (λο=>a7 _) λο=>(_,RB.of N,_,OG,B,rfl,PD (λο=>a7 _) λο=>absurd (show vG n m B from (⟨⋯,⋯⟩,⟨⋯,⋯⟩,⋯,⋯)) D))))))
 rintro⟨k2,x,D,rfl,ga,eq,ab⟩;let((et,ev),(ew,ey),f0,f1):=D;let ek:((n.toNat:Nat):Int)=n:=MA ⋯;let ej:((m.toNat:Nat):Int)=m:=MA ⋯;let ef:((k2.toNat:Nat):Int)=k2:=MA ⋯;rfl';rw[kA nofun];show(x,n.toNat,m.toNat,k2.toNat,0,sz,rfl,ab,⋯,by rw[ek,ej,ef];show eq,λZ Y=>(true,rfl,?_));rw[kA (by decide)];let bl:=ga.trans Y;let f5:=ab.same Y;show(bl.seq a4,bl.seq a4,λg1 ff=>?_);let(a8,eo):=dD (o:=.lst [V.int 0,V.int (-1 - ns.getD 5 0 % 1000000000000000000000000000000),V.int (1+ns.getD 5 0 % 1000000000000000000000000000000)]) ff;generalize uB Z g1 (.lst [V.int 0,V.int (-1 - ns.getD 5 0 % 1000000000000000000000000000000),V.int (1+ns.getD 5 0 % 1000000000000000000000000000000)])=ca at *;let dd:=bl.trans a8;show(dd.seq a4,_,RB.of eo,CM ⋯ (by change _ < (3:Int);omega) λv be=>?_);obtain⟨a5,rfl⟩:∃a5:Int,v=.int a5:=by
  simp only[iA,xA,dB] at be;let rfl||rfl||rfl:=be<;>show⟨_,rfl⟩
 clear be;let bd:=f5.same a8;show(x,n.toNat,m.toNat,k2.toNat,0,[],[],[],[],0,0,false,rfl,bd,by decide,by decide,by decide,.inr (rfl,(λJ=>by cases J),(λJ=>by cases J)),λcd r ad a3=>?_);let a3:mD cd (.leaf (.str "task")) r:=a3;unfold mD at a3;let(rfl,_):=a3;show⟨rfl,?_⟩;rw[kA (by rw[DA rfl];decide)];show(x,n.toNat,m.toNat,k2.toNat,0,[],[],[],[],4,0,false,rfl,bd.same ad,by decide,by decide,by decide,.inr (rfl,(λJ=>by cases J),(λJ=>by cases J)),λa6 r ah a3=>?_);let a3:mD a6 (.leaf (.str "bank")) r:=a3;unfold mD at a3;let(rfl,_):=a3;show⟨rfl,?_⟩;rw[kA (by rw[DA rfl];decide)];let g6:=dd.trans (ad.trans ah);let co:=bd.same (ad.trans ah);let(e7,f2):=co.me;obtain⟨c,fa⟩:∃c:Nat,(c:Int)=1+ns.getD 6 0 % 64:=⟨(1+ns.getD 6 0 % 64).toNat,MA ⋯⟩
 show(g6.seq a4,e7,_,f2,UE ∅,x,n.toNat,m.toNat,k2.toNat,0,rfl,co,λv gb b5 cs g2 g3=>?_);let(ea,f3):=cs.me;rw[<-fa];show(ea,_,f3,UE ∅,x,n.toNat,m.toNat,k2.toNat,0,c,v,gb,rfl,cs,g2,g3,⋯,⋯,λu h6 dt f4=>?_);intro b2 eb;let(em,fn):=dD (o:=.tup [V.int 0,V.int 0]) eb;generalize uB dt b2 (.tup [V.int 0,V.int 0])=F1 at *;intro bm ec;let(ck,fr):=dD (o:=.tup [V.int 0,V.int 0]) ec;generalize uB F1 bm (.tup [V.int 0,V.int 0])=F2 at *;let db:∀{c3:Hp} {t:Addr},c3 t>(.tup [V.int 0,V.int 0])->mD c3 (.seq true [.leaf (.int 0),.leaf (.int 0)]) (.ref t):=λh=>LK h (by change 2 < _;decide) (pE (mE rfl) (pE (mE rfl) SN));show(_,_,_,rfl,db (ck _ _ fn),db fr,by simp only[RD,eC];decide,λgf g8=>(true,rfl,?_));rw[kA (by decide)];show(x,n.toNat,m.toNat,k2.toNat,c,_,_,_,_,a5,rfl,f4.same (em.trans (ck.trans g8)),⋯,⋯,?_,λe0 ο=>a7 e0);let ne:∀{w:V},inl a5∈WB [((inl 0:Key),w)]->a5=0:=λh=>Sum.inl.inj (AA.mp h);by_cases ac:a5=0
 .subst ac;show .inl (rfl,zA .., zA .., zA .., zA ..)
 .show .inr (GA ac,λJ=>ac (ne J),λJ=>ac (ne J))
end
theorem wW {l:W.OpenLaw} {q:Program} {loose:!Str} {XP:(Str->Option Value)->Heap->Prop} {YP:World->Heap->Prop} {d:DefRec} {K:Params->W.Frag} (a2:l.most>63) (Z:d.params.defaults=[]) (a0:d.name="law")
  (V:∀(w:World) (h:Heap),YP w h->(K w.params).In h)
  (D:∀(w:World) (mg:Str->Option Value) (h:Heap),(K w.params).In h->h.Ns mainGlobals mg->∃A:XB,QB (K w.params) mg A):
  W.WalkO q loose XP YP l.row.toRowW d [] (λf vs=>PySem.call f vs):=by
 show L2.T9 (n:=63) (k:=16+1) (x:="_law_script") (CX:=λw=>kE l.prog w) (sp:=λw=>oI (K w.params)) a2 (by decide) Z (rfl,by decide,by decide) V ?_ (λο ο a ns a1 ο U=>(a,ns,rfl,U,a1,λο=>rfl)) λ_ _ _ _ _ ⟨_,_,_,_,_,_,_,_,_,_,j⟩=>j;intro w mg a3 h L J B;rw[a0] at B;let(A,T):=D w mg h L J;let(f,O,e,F,Y):=T.Qk;let N:=B.symm.trans e;cases N;show(O,Y,λbase ο ο=>F.okE EF (λvs H Q E j=>by let(a,ns,rfl,_):=j;rfl) (qg (P:=l.prog) (w:=w) (base:=base) T))
end Pf
open PySem PySem.W PyProof.Rows
set_option maxRecDepth 100000 in
set_option maxHeartbeats 0 in
theorem PySem.Challenge.cw_frameland_k79_machine_sizes_holds : PySem.Challenge.rw_frameland_k79_machine_sizes.Holds := by
 w_on;o_law
 show holds_open (q:=Pf.vw) (loose:=Pf.lo) (Xt:=λs=>xlAt Pf.vw [] s&&recOk (RowW.records (PySem.Challenge.rw_frameland_k79_machine_sizes).row.toRowW) s) (XP:=XL Pf.vw []) (Yf:=Hook.obs (kHook Pf.Kf Pf.yG Pf.LR)) (Ya:=Hook.val (kHook Pf.Kf Pf.yG Pf.LR)) (YP:=Hook.says (kHook Pf.Kf Pf.yG Pf.LR)) (N:=(12+(1+(3568+(3316+(11663)))))) Pf.left (Hook.of (kHook Pf.Kf Pf.yG Pf.LR)) (Hook.keeps (kHook Pf.Kf Pf.yG Pf.LR)) (λs e=>xl_of s (Bool.and_eq_true_iff.mp e).1) XL.keeps (by rfl) (by rfl) (by rfl) (λs e=>recFacts_of (Bool.and_eq_true_iff.mp e).2) (by rfl) (by first|assumption|decide+kernel) (by decide+kernel) (rfl,rfl,rfl,rfl,rfl,by decide+kernel) ?hw ?hc
 case hw=>w_witness2
 k_fill
 show Pf.wW (l:=PySem.Challenge.rw_frameland_k79_machine_sizes) rfl rfl rfl (λw h Y=>PySem.W.kIn_of Y) ?F
 case F=>
  intro w mg h KX G;refine' Pf.IJ KX G ?_ ?_ ?_ ?_ ?_ ?_ ?_ ?_ ?_ ?_ ?_ ?_ ?_ ?_ ?_ ?_ ?_ ?_ ?_ ?_ ?_ ?_ ?_ ?_ ?_ ?_ ?_ ?_ ?_ ?_ ?_ (.mk ?_ ?_ ?_ ?_) (.mk ?_ ?_ ?_ ?_) (.mk ?_ ?_ ?_ ?_) (.mk ?_ ?_ ?_ ?_) (.mk ?_ ?_ ?_ ?_) (.mk ?_ ?_ ?_ ?_) (.mk ?_ ?_ ?_ ?_) (.mk ?_ ?_ ?_ ?_) (.mk ?_ ?_ ?_ ?_) (.mk ?_ ?_ ?_ ?_) (.mk ?_ ?_ ?_ ?_) (.mk ?_ ?_ ?_ ?_) (.mk ?_ ?_ ?_ ?_) (.mk ?_ ?_ ?_ ?_) (.mk ?_ ?_ ?_ ?_) (.mk ?_ ?_ ?_ ?_) (.mk ?_ ?_ ?_ ?_) (?_,?_,?_,?_) ?_ (.mk ?_ ?_ ?_ ?_ ?_ ?_ ?_) (.mk ?_ ?_ ?_ ?_ ?_) (?_,?_,?_,?_) ?_ ?_ ?_ (.mk ?_ ?_ ?_ ?_ ?_ ?_ ?_) (.mk ?_ ?_ ?_ ?_ ?_) (.mk ?_ ?_ ?_ ?_ ?_) (.mk ?_ ?_ ?_ ?_ ?_) (.mk ?_ ?_ ?_ ?_ ?_) (.mk ?_ ?_ ?_ ?_ ?_) (.mk ?_ ?_ ?_ ?_ ?_) (.mk ?_ ?_ ?_ ?_ ?_) (.mk ?_ ?_ ?_ ?_ ?_) (?_,?_,?_,?_) ?_ ?_ ?_ (.mk ?_ ?_ ?_ ?_ ?_ ?_ ?_) (.mk ?_ ?_ ?_ ?_ ?_) (?_,?_,?_,?_) ?_ ?_ (.mk ?_ ?_ ?_ ?_ ?_ ?_ ?_) (.mk ?_ ?_ ?_ ?_ ?_) (.mk ?_ ?_ ?_ ?_ ?_) (?_,?_,?_,?_) ?_ ?_ ?_ ?_ (.mk ?_ ?_ ?_ ?_ ?_ ?_ ?_) (.mk ?_ ?_ ?_ ?_ ?_) (.mk ?_ ?_ ?_ ?_ ?_) (.mk ?_ ?_ ?_ ?_ ?_) (.mk ?_ ?_ ?_ ?_ ?_) (.mk ?_ ?_ ?_ ?_ ?_) (.mk ?_ ?_ ?_ ?_ ?_) (?_,?_,?_,?_) ?_ ?_ (.mk ?_ ?_ ?_ ?_ ?_) (?_,?_,?_,?_) ?_ ?_ (.mk ?_ ?_ ?_ ?_ ?_ ?_ ?_) (.mk ?_ ?_ ?_ ?_ ?_) (?_,?_,?_,?_) ?_ ?_ ?_ ?_ ?_ ?_ ?_ (.mk ?_ ?_ ?_ ?_ ?_ ?_ ?_) (.mk ?_ ?_ ?_ ?_ ?_) (.mk ?_ ?_ ?_ ?_ ?_) (.mk ?_ ?_ ?_ ?_ ?_) (.mk ?_ ?_ ?_ ?_ ?_) (.mk ?_ ?_ ?_ ?_ ?_) (.mk ?_ ?_ ?_ ?_ ?_) (.mk ?_ ?_ ?_ ?_ ?_) (?_,?_,?_,?_) ?_ ?_ ?_ ?_ ?_ ?_ ?_ ?_ ?_ ?_ (.mk ?_ ?_ ?_ ?_ ?_ ?_ ?_) (.mk ?_ ?_ ?_ ?_ ?_) (.mk ?_ ?_ ?_ ?_ ?_) (.mk ?_ ?_ ?_ ?_ ?_) (.mk ?_ ?_ ?_ ?_ ?_) (.mk ?_ ?_ ?_ ?_ ?_) (.mk ?_ ?_ ?_ ?_ ?_) (.mk ?_ ?_ ?_ ?_ ?_) (.mk ?_ ?_ ?_ ?_ ?_) (.mk ?_ ?_ ?_ ?_ ?_) (.mk ?_ ?_ ?_ ?_ ?_) (.mk ?_ ?_ ?_ ?_ ?_) (?_,?_,?_,?_) ?_ ?_ ?_ ?_ ?_ ?_ ?_ ?_ ?_ ?_ ?_ (.mk ?_ ?_ ?_ ?_ ?_) (.mk ?_ ?_ ?_ ?_ ?_) (.mk ?_ ?_ ?_ ?_ ?_) (.mk ?_ ?_ ?_ ?_ ?_) (.mk ?_ ?_ ?_ ?_ ?_) (.mk ?_ ?_ ?_ ?_ ?_) (.mk ?_ ?_ ?_ ?_ ?_) (.mk ?_ ?_ ?_ ?_ ?_) (.mk ?_ ?_ ?_ ?_ ?_) (.mk ?_ ?_ ?_ ?_ ?_) (.mk ?_ ?_ ?_ ?_ ?_) (.mk ?_ ?_ ?_ ?_ ?_) (.mk ?_ ?_ ?_ ?_ ?_) (.mk ?_ ?_ ?_ ?_ ?_) (.mk ?_ ?_ ?_ ?_ ?_) (.mk ?_ ?_ ?_ ?_ ?_) (?_,?_,?_,?_) ?_ ?_ ?_ ?_ ?_ ?_ (.mk ?_ ?_ ?_ ?_ ?_ ?_ ?_) (.mk ?_ ?_ ?_ ?_ ?_) (.mk ?_ ?_ ?_ ?_ ?_) ?_ ?_ ?_ ?g0 ?g1 ?g2 ?_ ?_ ?_ ?_ ?_ ?_ ?_ ?_ ?g3 ?_ ?_ ?_ ?_ ?_ ?_ ?_ ?_ ?g4 ?_ ?_ ?_ ?_ ?_ ?_ ?_ ?_ ?_ ?_ ?_ ?g5 ?g6 ?g7 ?g8 ?g9 ?g10 ?g11 ?g12 ?g13 ?g14 ?g15 ?g16 ?g17 (.mk ?_ ?_ ?_ ?_)
  all_goals first|k_is|skip
  (case g0=>k_exc)
  (case g1=>k_exc)
  (case g2=>k_exc)
  (case g3=>k_exc)
  (case g4=>k_exc)
  (case g5=>kit_is)
  (case g6=>kit_is)
  (case g7=>kit_is)
  (case g8=>kit_is)
  (case g9=>kit_is)
  (case g10=>kit_is)
  (case g11=>kit_is)
  (case g12=>kit_is)
  (case g13=>kit_is)
  (case g14=>kit_is)
  (case g15=>kit_is)
  (case g16=>kit_is)
  (case g17=>kit_is)
