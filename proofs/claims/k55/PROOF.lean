import PyProof.Rows.All
import Wide.All
import OpenK.AllK
import Wide.FinOn
import Lean
import PyProof.EqAt
import PyProof.EqKinds
import PyProof.TupleCall
import PyProof.NeKinds
import PyProof.EnumMake
import PyProof.EnumStmt
import PyProof.LayNew
import KE.KDictLaws
import KE.KDictSum
import KE.LcSums
import PyProof.Rows.SumAny
import PyProof.Rows.SortWalk
import PyProof.DictWalks
import PyProof.Rows.SortRev
import KE.KRevIter
import KE.KIntText
import PyProof.CallStr
import PyProof.StrCalls2
import PyProof.Rows.StrJoin2
import PyProof.StrWalks
import PyProof.Rows.Range3
import PyProof.Rows.MatchSeqLen
import PyProof.Rows.SetFrom
import PyProof.SetRoads
import PyProof.TupleKey
import PyProof.IsRules
import PyProof.Rows.SortShell
import PyProof.Rows.SortRuns
import PySem.Challenge.RW_frameland_k55_folded_rooms
set_option Elab.async false
set_option linter.all false
set_option genSizeOf false
set_option bootstrap.genMatcherCode false
set_option maxRecDepth 100000
set_option tactic.hygienic false
local macro_rules|`(def $i:declId $s:optDeclSig $v:declVal)=>`(noncomputable def $i:declId $s:optDeclSig $v:declVal)
local macro_rules | `(tactic| omega) => `(tactic| first | with_reducible assumption | decide | lia | omega (config := {}))
def aA:=@List.mem_singleton
def bA:=@List.mem_map
def cA:=@List.length_map
def dA:=@List.mem_append
def eA:=@List.mem_append_right
def fA:=@if_neg
def gA:=@List.map_append
def iA:=@if_pos
def jA:=@PySem.wpAny_bind
def kA:=@Nat.le_refl
def lA:=@List.map_map
def nA:=@decide_eq_true
def oA:=@List.length_append
def pA:=@List.mem_append_left
def qA:=@List.mem_cons_self
def rA:=@Option.some.inj
def uA:=@PySem.Heap.get?_push_of_some
def vA:=@List.mem_cons
def wA:=@Bool.false_ne_true
def xA:=@List.mem_cons_of_mem
def yA:=@List.map_cons
def zA:=@List.nodup_append
def AA:=@List.mem_filter
def BA:=@PySem.Heap.lt_size
def CA:=@List.size_toArray
def DA:=@List.map_congr_left
def EA:=@PySem.wpAny_pure
def FA:=@PySem.Heap.get?_push_size
def GA:=@List.getElem?_eq_getElem
def HA:=@decide_eq_false
def IA:=@List.getElem?_eq_some_iff
def JA:=@List.mem_of_getElem?
def KA:=@Nat.lt_of_lt_of_le
def LA:=@Nat.ne_of_lt
def MA:=@Bool.and_eq_true
def NA:=@List.take_add_one
def OA:=@List.nodup_cons
def QA:=@List.getElem?_map
def SA:=@decide_eq_true_eq
def UA:=@of_decide_eq_true
def VA:=@List.take_length
def WA:=@List.mem_of_find?_eq_some
def XA:=@Option.map_eq_some_iff
def YA:=@Sum.inl.inj
def ZA:=@List.length_cons
def aB:=@PySem.PassesOwn.leaving
def bB:=@List.length_filter_le
def cB:=@List.length_take
def dB:=@Nat.le_trans
def eB:=@Bool.eq_iff_iff
def fB:=@List.not_mem_nil
def gB:=@List.replicate_succ
def iB:=@List.length_singleton
def jB:=@List.take_sublist
def kB:=@List.find?_eq_none
def lB:=@List.getElem?_append_right
def mB:=@PySem.wpAny_mono
def nB:=@PySem.Calls.callWith_builtin
def oB:=@PySem.BindsTo.of_defaults
def pB:=@Int.toNat_natCast
def qB:=@List.count_append
def rB:=@List.length_replicate
def sB:=@List.find?_some
def uB:=@List.filter_cons
def vB:=@List.filter_cons_of_neg
def wB:=@List.filter_cons_of_pos
def xB:=@List.pairwise_append
def yB:=@PySem.Heap.get?_update_other
def zB:=@List.append_assoc
def AB:=@List.flatten_cons
def BB:=@List.map_nil
def CB:=@List.pairwise_map
def DB:=@PyProof.Rows.boot_list
def EB:=@beq_iff_eq
def FB:=@beq_eq_false_iff_ne
def GB:=@List.append_nil
def HB:=@Array.getElem?_eq_getElem
def IB:=@PySem.Calls.spliced_cons
def JB:=@List.filter_append
def KB:=@PySem.tupleKind_room_in1
def LB:=@List.length_filter_lt_length_iff_exists
def MB:=@PySem.Calls.evalArgs_plain
def NB:=@PySem.wpAny_typeNameOfWhole_keyiter
def OB:=@PyProof.Rows.boot_isinstance
def PB:=@Array.length_toList
def QB:=@congrFun
def SB:=@Array.getD_eq_getD_getElem?
def UB:=@PyProof.Rows.callWith_type1
def VB:=@Nat.lt_irrefl
def WB:=@List.lookup_cons
def XB:=@Bool.false_eq_true
def YB:=@Array.getElem?_toList
def ZB:=@List.length_range
def aC:=@Nat.zero_le
def bC:=@if_false
local macro_rules|`(⋯)=>`(by omega)
local macro_rules|`(∅)=>`(by decide+kernel)
local macro_rules|`(tactic|rfl')=>`(tactic|walk_at "wp")
namespace Hd
open PySem PySem.W PySem.Calls PyProof.Rows
def SF (tb:String->Option Builtin) (p:Program) (w:World) (n0:Nat) (ann:Option Value):Nat->SharedT->Thread->Option SharedT
 |0,_,_=>none
 |n+1,s,t=>match through t with
  |true=>some s
  |false=>match stepOk n0 ann t with
   |false=>none
   |true=>match stepT (denote tb) p w s t with
    |some (s',t')=>SF tb p w n0 ann n s' t'
    |none=>none
theorem W5 {tb:String->Option Builtin} {p:Program} {w:World} {n0:Nat} {ann:Option Value}:∀{n:Nat} {s r:SharedT} {t:Thread},SF tb p w n0 ann n s t=some r->topRun tb p w n0 ann n s.abs t=some r.abs
 |0,_,_,_,h=>by cases h
 |n+1,s,r,t,h=>by
  unfold SF at h;unfold topRun;cases he:through t with
  |true=>rw[he] at h;cases h;rfl
  |false=>
   rw[he] at h;cases hk:stepOk n0 ann t with
   |false=>rw[hk] at h;cases h
   |true=>
    rw[hk] at h;cases hs:stepT (denote tb) p w s t with
    |none=>rw[hs] at h;cases h
    |some x=>obtain⟨s2,t2⟩:=x;rw[hs] at h;rw[stepT_spec hs];exact W5 h
def aO:List Obj->Nat->BT->BT
 |[],_,t=>t
 |o::l,n,t=>aO l (n+1) (t.ins n o)
def bO (P:Params):BT:=aO (boot_heap P).objs.toList 0 .nil
def CF (w:World) (os:OsState):SharedT:=⟨bO w.params,(boot_heap w.params).objs.size,(boot_heap w.params).life, #[],boot_drawn,boot_toks,os⟩
theorem Re (w:World) (os:OsState):(CF w os).abs=⟨boot_heap w.params, #[],boot_drawn,boot_toks,os⟩:=by kernel_rfl
theorem Se (w:World):((boot_heap w.params).isNs mainGlobals&&(#[]:Array GenState).size == 0)=true:=by kernel_rfl
noncomputable abbrev NE (w:World):Option Value:=(boot_heap w.params).nsMap mainGlobals "__annotations__"
def look {α:Type} (p:Program) (Yf:Shared->α) (H0:Heap) (s:Shared):Bool×α:=
 (staticsOk (importedModules p.main.body) H0 s.heap&&namesBound p s.heap&&gensDone s&&laidKept H0 s.heap,Yf s)
def X5 (p:Program) (N:Nat) (w:World) (os:OsState):Option SharedT:=SF treeTable p w (boot_heap w.params).objs.size (NE w) N (CF w os) (topStub p)
def ER {α:Type} (p:Program) (Yf:Shared->α) (N:Nat) (w:World) (os:OsState):=(X5 p N w os).map λs=>look p Yf (boot_heap w.params) s.abs
def FR (p q:Program) (loose:List Str) (Xt:Shared->Bool) (N:Nat) (w:World) (os:OsState):=(X5 p N w os).map λs=>openSeen q loose (importedModules p.main.body) Xt true s.abs
end Hd
namespace Hd
open PySem PySem.W
def Y5:Nat->Nat->List Nat
 |0,_=>[]
 |k+1,n=>match Nat.beq n 0 with
  |true=>[]
  |false=>Nat.sub (n % 256) 1::Y5 k (n / 256)
def S (n:Nat):Str:=⟨⟨Y5 200 n⟩⟩
def Te (P:Params) (x:Str) (t:Nat) (v:Value):DictEntry:=⟨PyData.keyHash P x,.str x t,v⟩
def dO (n:Nat) (l:List DictEntry):Obj:=⟨.type "dict",none,.dict ⟨l⟩ n, #[]⟩
def tO (l:List Value):Obj:=⟨.type "tuple",none,.seq ⟨l⟩ 0, #[]⟩
def cO (l:List Value):Obj:=⟨.type "code",none,.fields ⟨l⟩, #[]⟩
end Hd
namespace Hd
open PySem PySem.W PySem.Calls PyProof.Rows
def GM (tb:String->Option Builtin) (p:Program) (w:World) (n0:Nat) (ann:Option Value):Nat->SharedT->Thread->Option (SharedT×Thread)
 |0,s,t=>some (s,t)
 |n+1,s,t=>match through t with
  |true=>none
  |false=>match stepOk n0 ann t with
   |false=>none
   |true=>match stepT (denote tb) p w s t with
    |some (s',t')=>GM tb p w n0 ann n s' t'
    |none=>none
theorem Z5 {tb:String->Option Builtin} {p:Program} {w:World} {n0:Nat} {ann:Option Value}:∀{n:Nat} {s s':SharedT} {t t':Thread},GM tb p w n0 ann n s t=some (s',t')->topGo tb p w n0 ann n s.abs t=some (s'.abs,t')
 |0,_,_,_,_,h=>by cases h;rfl
 |n+1,s,s',t,t',h=>by
  unfold GM at h;unfold topGo;cases he:through t with
  |true=>rw[he] at h;cases h
  |false=>
   rw[he] at h;cases hk:stepOk n0 ann t with
   |false=>rw[hk] at h;cases h
   |true=>
    rw[hk] at h;cases hs:stepT (denote tb) p w s t with
    |none=>rw[hs] at h;cases h
    |some x=>obtain⟨s2,t2⟩:=x;rw[hs] at h;rw[stepT_spec hs];exact Z5 h
theorem mL {tb:String->Option Builtin} {p:Program} {w:World} {n0:Nat} {ann:Option Value} {env:Env} {q:Pos} {n N i:Nat} {s s':SharedT} {r:Shared} {l:List Stmt} {c:Code} {pos p':Pos} (h:segRunT tb p w n0 ann 1 n s (piecesOf (l.take i) env c pos [topFrame q])=some (.next,s',c,p'))
  (k:topRun tb p w n0 ann N s'.abs (restOf (l.drop i) env c p' [topFrame q])=some r):topRun tb p w n0 ann (n+N) s.abs (restOf l env c pos [topFrame q])=some r:=by
 have:=piece_app (segRun_of h) k;rwa[List.take_append_drop] at this
theorem Ue {p q:Program} {loose:List Str} {Xt:Shared->Bool} {α:Type} {Yf:Shared->α} {Ya:World->α} {N Nl:Nat} {S:World->OsState->SharedT} {t:Thread}
  (e:opening p=plainProg p.main.scope.names) (hN:Nat.ble 600 N=true) (f:∀s,fenceModules? p s=some s)
  (jO:∀(w:World) (os:OsState) (r:Shared),topRun treeTable p w (boot_heap w.params).objs.size (NE w) Nl (S w os).abs t=some r->topRun treeTable p w (boot_heap w.params).objs.size (NE w) N (CF w os).abs (topStub p)=some r)
  (one:∀(w:World) (os:OsState),(SF treeTable p w (boot_heap w.params).objs.size (NE w) Nl (S w os) t).map (λs=>look p Yf (boot_heap w.params) s.abs)=some (true,Ya w))
  (two:∀(w:World) (os:OsState),(SF treeTable p w (boot_heap w.params).objs.size (NE w) Nl (S w os) t).map (λs=>openSeen q loose (importedModules p.main.body) Xt true s.abs)=some (openGood q loose)):LeftO p q loose Xt Yf Ya N:=λw=>by
 obtain⟨⟨h,gs,d,k,os⟩,e1,e2⟩:=XA.mp (boot_open e hN f w);obtain⟨rfl,rfl,rfl,rfl⟩:h=boot_heap w.params/\gs= #[]/\d=boot_drawn/\k=boot_toks:=by simpa using e2
 obtain⟨sT,r,l⟩:=XA.mp (one w os);obtain⟨sT',r',l2⟩:=XA.mp (two w os);obtain rfl:sT=sT':=rA (r.symm.trans r');have r:=jO w os _ (W5 r);rw[Re] at r;obtain⟨l1,l3⟩:_/\_:=by simpa only[look,Prod.mk.injEq] using l
 have t:topFrom treeTable p w N ⟨boot_heap w.params, #[],boot_drawn,boot_toks,os⟩=some sT.abs:=by
  unfold topFrom;dsimp only;rw[Se w,r];show (match staticsOk (importedModules p.main.body) (boot_heap w.params) sT.abs.heap&&namesBound p sT.abs.heap&&gensDone sT.abs&&laidKept (boot_heap w.params) sT.abs.heap with|true=>_|false=>_)=_;rw[l1]
 unfold openEnds;rw[e1];show (topFrom treeTable p w N _).map _=_;rw[t];exact congrArg some (Prod.ext l2 l3)
end Hd
namespace Hd
open PySem PySem.W PySem.Calls PyProof.Rows
theorem tw_run:(λ(_:(String->Option Builtin)->Program->World->Nat->Option Value->Nat->SharedT->Thread->Option SharedT)=>true) SF=true:=by k_qdec
theorem tw_go:(λ(_:(String->Option Builtin)->Program->World->Nat->Option Value->Nat->SharedT->Thread->Option (SharedT×Thread))=>true) GM=true:=by k_qdec
theorem tw_boot:(λ(_:World->OsState->SharedT) (_:World->Option Value)=>true) CF NE=true:=by k_qdec
theorem tw_look:(λ(_:{α:Type}->Program->(Shared->α)->Heap->Shared->Bool×α)=>true) @look=true:=by k_qdec
theorem tw_once:(λ(_:{α:Type}->Program->(Shared->α)->Nat->World->OsState->Option (Bool×α))=>true) @ER=true:=by k_qdec
theorem tw_seen:(λ(_:Program->Program->List Str->(Shared->Bool)->Nat->World->OsState->Option _)=>true) FR=true:=by k_qdec
end Hd
namespace L2
open PySem
def dC (s:Stmt) (j:Nat):Stmt:=match s with
 |.ClassDef _ _ _ body _ _ _ _ _ _ _=>body.getD j (.Pass ⟨0,0,0,0⟩)
 |_=>.Pass ⟨0,0,0,0⟩
def zC (s:Stmt):Arguments:=match s with
 |.FunctionDef _ a _ _ _ _ _ _ _ _=>a
 |_=>{posonlyargs:=[],args:=[],vararg:=none,kwonlyargs:=[],kw_defaults:=[],kwarg:=none,defaults:=[]}
def xC (s:Stmt):List Stmt:=match s with
 |.FunctionDef _ _ b _ _ _ _ _ _ _=>b
 |_=>[]
def cC (s:Stmt):Scope:=match s with
 |.FunctionDef _ _ _ _ _ _ sc _ _ _=>sc
 |_=>{kind:=.function,names:=[],isGenerator:=false,isCoroutine:=false}
end L2
def PySem.W.Fast.tw8885798241951657553:PySem.Program:=PySem.Challenge.pw_frameland_k55_folded_rooms
theorem PySem.W.Fast.te8885798241951657553:PySem.Challenge.pw_frameland_k55_folded_rooms=PySem.W.Fast.tw8885798241951657553:=rfl
namespace Pf
open PySem L2
def qC (i:Nat):Stmt:=PySem.Challenge.pw_frameland_k55_folded_rooms.main.body.getD i (.Pass ⟨0,0,0,0⟩)
noncomputable section
open Hd
def z0:Nat:=803580011597289416295307045904656459107919660346679316820839133544473197
def z1:Nat:=27127582262911072
def z2:Nat:=9700865007064396754801562313776
def z3:Nat:=469986605152
def z4:Nat:=545146499936607105348423
def z5:Nat:=28835115112362063
def z6:Nat:=2037243915540886812240
def z7:Nat:=2148282720731175150147
def z8:Nat:=119247121772623
def z9:Nat:=119225645756495
def rM:Nat:=2000274411557569787472
def sM:Nat:=478459748949
def tM:Nat:=1870502957375938719823
def uM:Nat:=33048469456515151
def vM:Nat:=121429199908943
def QM:Nat:=7380678962623575146
def RM:Nat:=2055256381122481779818
def SM:Nat:=36042203234783605173055285604
def TM:Nat:=113732351258470
def UM:Nat:=7957987429399816821
def VM:Nat:=29115482190865009
def WM:Nat:=31367281986924648
def BU:Nat:=483571264869516729017965
def CU:Nat:=34807946493563893454802022513
def DU:Nat:=2360876520579034574696528942098788
def EU:Nat:=36328676245180164783460216160
def FU:Nat:=483700176494498687380832
def GU:Nat:=122585060169398306681810272
def HU:Nat:=140785078389220449424928096
def bF:Nat:=455125450472104437637216
def uE:Nat:=154789842426610354947036250589871895399
def cF:Nat:=500416517772168279997240570217455712
def dF:Nat:=140854816109632365363434125429399349832812124725344
def qI:Nat:=116512133262362862868258912
def sK:Nat:=128047628446323
def lF:Nat:=2595807759375494792423391711955702693320880999
def mG:Nat:=1718116977
def JG:Nat:=504464894567
def kD:Nat:=1735222900
def tK:Nat:=6944679725401530464
def nG:Nat:=2054120046
def XM:Nat:=435727529576
def EQ:Nat:=2165357850485127146099
def sI:Nat:=1819239011
def uK:Nat:=6944679699547512928
def wM:Nat:=126883592042095
def qF:Nat:=531976422797234828493252396058833767
def jF:Nat:=1819566709
def FQ:Nat:=7814979509663852143
def GQ:Nat:=7814979509662609254
def HQ:Nat:=7813572057470887535
def IQ:Nat:=2000274446712430424933
def xM:Nat:=32779080669947234
def JQ:Nat:=2166657694140852363893
def KQ:Nat:=2166657694140852036195
def LQ:Nat:=32012811197779588502284105076
def WE:Nat:=604546409002214677880256391643558759
def YM:Nat:=499934323313
def WG:Nat:=154722361499902317960303193115794240359
def bI:Nat:=29827101539148240018006499424
def s (n t:Nat):Value:=.str (S n) t
def i (n:Int):Value:=.int n 0
def e (P:Params) (n t:Nat) (v:Value):DictEntry:=Te P (S n) t v
def fO (a b:String) (x:Stmt) (m r:Value):Obj:=⟨.type "function",none,.func (W.fnOf (Str.ofString a) (Str.ofString b) (zC x) (xC x) (cC x) .none .none .none m none r .none), #[]⟩
def o2:Obj:=⟨.none,none,.dict ⟨[]⟩ 0, #[]⟩
def o3 (P:Params):Obj:=dO 50 [e P 6944663249689206880 165 (s z0 1240),e P z1 166 .none,e P 116512114954948911152848992 167 .none,e P 455126385231797511086176 168 (.builtin "__main__.__loader__#opaque"),e P 6944661016558198880 169 .none,e P 500416834696884185539869749159288928 170 (.ref 6),e P 29827167671303893903271485536 171 (.ref 4),e P 6944663245527933024 173 (s z2 172),e P 455125376429887381069920 174 .none,e P z3 193 (.ref 21),e P 1161971283 195 (.int (1) 194),e P 302078645080 197 (.int (2) 196),e P z4 217 (.ref 31),e P z5 233 (.ref 44),e P z6 249 (.ref 56),e P z7 265 (.ref 68),e P z8 281 (.ref 80),e P z9 297 (.ref 92),e P rM 313 (.ref 104),e P sM 329 (.ref 116),e P tM 345 (.ref 128),e P uM 361 (.ref 140),e P vM 377 (.ref 152),e P QM 386 (.ref 161),e P RM 395 (.ref 168),e P 101952521820057743536705614 399 (.int (3) 398),e P SM 406 (.ref 175),e P TM 413 (.ref 182),e P UM 422 (.ref 189),e P VM 432 (.ref 196),e P WM 440 (.ref 203),e P 111490630316139 450 (.ref 210),e P 2147201852470124049748 608 (.ref 329),e P 23616678805231350591419338830 612 (.int (64) 611),e P BU 620 (.ref 340),e P 440040583241 831 (.ref 496),e P 500069068883 1101 (.ref 691),e P 380423630684598931079812568447209550 1105 (.int (64) 1104),e P CU 1114 (.ref 702),e P DU 1123 (.ref 709),e P 439988939092 1239 (.ref 796),e P EU 1249 (.ref 807),e P 2166583389145247411552 1259 (.ref 814),e P FU 1267 (.ref 821),e P 8819856081844071776 1275 (.ref 828),e P GU 1287 (.ref 835),e P HU 1293 (.ref 840),e P 2054967305178938764640 1306 (.ref 847),e P 2055908558600570826080 1325 (.ref 854),e P 7889517 1331 (.ref 859)]
def lC:Obj:=tO []
def ca:Obj:=tO [s 108 190]
def da:Obj:=cO [s z3 187,s z3 188,s z2 189,i 1,i 1,i 0,i 0,i 3,.ref 15,(.bool true),i 181,.ref 16,.none,.ref 17,.ref 18,.ref 19,i 191,i 1,s z2 192]
def ga:Obj:=fO "_wall" "_wall" (qC 0) (s 6944673128113922144 164) (.ref 20)
def ja:Obj:=⟨(.type "tuple"),none,.seq #[(.type "ValueError")] 0, #[]⟩
def vF:Obj:=⟨(.type "tuple"),none,.seq #[] 0, #[]⟩
def ma (P:Params):Obj:=dO 3 [e P bF 207 (s uE 198),e P cF 211 (.int (7) 210),e P dF 212 (.ref 29),e P qI 214 (.ref 32),e P z1 215 .none]
def qa:Obj:=⟨(.type "type"),none,.cls {name:=(Str.ofString "FrameError"),bases:=[(.type "ValueError")],mro:=[.ref 31,(.type "ValueError"),(.type "Exception"),(.type "BaseException"),(.type "object")],ns:=30,qualname:=(Str.ofString "FrameError"),hasDict:=true,slotNames:=[],subclasses:=[.ref 44,.ref 56,.ref 68,.ref 80,.ref 92,.ref 104,.ref 116,.ref 128,.ref 140,.ref 152],abstract:=false,collection:=none,hasDel:=false}, #[(some (.ref 22)),none,(some (s z4 200)),(some (s z4 208)),(some (.builtin "ValueError.__new__")),(some (.bool true))]⟩
def ua:Obj:=⟨(.type "getset_descriptor"),none,.fields ⟨[s qI 213,.ref 31,(.builtin "ExceptionGroup.__weakref__"),.none]⟩, #[]⟩
def HF:Obj:=⟨(.type "tuple"),none,.seq #[.ref 31] 0, #[]⟩
def va (P:Params):Obj:=dO 2 [e P bF 225 (s uE 198),e P cF 229 (.int (9) 228),e P dF 230 (.ref 42),e P z1 231 .none]
def xa:Obj:=⟨(.type "type"),none,.cls {name:=(Str.ofString "NoShape"),bases:=[.ref 31],mro:=[.ref 44,.ref 31,(.type "ValueError"),(.type "Exception"),(.type "BaseException"),(.type "object")],ns:=43,qualname:=(Str.ofString "NoShape"),hasDict:=true,slotNames:=[],subclasses:=[],abstract:=false,collection:=none,hasDel:=false}, #[(some (.ref 35)),none,(some (s z5 218)),(some (s z5 226)),(some (.builtin "ValueError.__new__")),(some (.bool true))]⟩
def ya (P:Params):Obj:=dO 2 [e P bF 241 (s uE 198),e P cF 245 (.int (11) 244),e P dF 246 (.ref 54),e P z1 247 .none]
def za:Obj:=⟨(.type "type"),none,.cls {name:=(Str.ofString "OutOfRoom"),bases:=[.ref 31],mro:=[.ref 56,.ref 31,(.type "ValueError"),(.type "Exception"),(.type "BaseException"),(.type "object")],ns:=55,qualname:=(Str.ofString "OutOfRoom"),hasDict:=true,slotNames:=[],subclasses:=[],abstract:=false,collection:=none,hasDel:=false}, #[(some (.ref 47)),none,(some (s z6 234)),(some (s z6 242)),(some (.builtin "ValueError.__new__")),(some (.bool true))]⟩
def Na (P:Params):Obj:=dO 2 [e P bF 257 (s uE 198),e P cF 261 (.int (13) 260),e P dF 262 (.ref 66),e P z1 263 .none]
def Oa:Obj:=⟨(.type "type"),none,.cls {name:=(Str.ofString "BadRights"),bases:=[.ref 31],mro:=[.ref 68,.ref 31,(.type "ValueError"),(.type "Exception"),(.type "BaseException"),(.type "object")],ns:=67,qualname:=(Str.ofString "BadRights"),hasDict:=true,slotNames:=[],subclasses:=[],abstract:=false,collection:=none,hasDel:=false}, #[(some (.ref 59)),none,(some (s z7 250)),(some (s z7 258)),(some (.builtin "ValueError.__new__")),(some (.bool true))]⟩
def Pa (P:Params):Obj:=dO 2 [e P bF 273 (s uE 198),e P cF 277 (.int (15) 276),e P dF 278 (.ref 78),e P z1 279 .none]
def Qa:Obj:=⟨(.type "type"),none,.cls {name:=(Str.ofString "NoTask"),bases:=[.ref 31],mro:=[.ref 80,.ref 31,(.type "ValueError"),(.type "Exception"),(.type "BaseException"),(.type "object")],ns:=79,qualname:=(Str.ofString "NoTask"),hasDict:=true,slotNames:=[],subclasses:=[],abstract:=false,collection:=none,hasDel:=false}, #[(some (.ref 71)),none,(some (s z8 266)),(some (s z8 274)),(some (.builtin "ValueError.__new__")),(some (.bool true))]⟩
def Ra (P:Params):Obj:=dO 2 [e P bF 289 (s uE 198),e P cF 293 (.int (17) 292),e P dF 294 (.ref 90),e P z1 295 .none]
def Sa:Obj:=⟨(.type "type"),none,.cls {name:=(Str.ofString "NoBank"),bases:=[.ref 31],mro:=[.ref 92,.ref 31,(.type "ValueError"),(.type "Exception"),(.type "BaseException"),(.type "object")],ns:=91,qualname:=(Str.ofString "NoBank"),hasDict:=true,slotNames:=[],subclasses:=[],abstract:=false,collection:=none,hasDel:=false}, #[(some (.ref 83)),none,(some (s z9 282)),(some (s z9 290)),(some (.builtin "ValueError.__new__")),(some (.bool true))]⟩
def XO (P:Params):Obj:=dO 2 [e P bF 305 (s uE 198),e P cF 309 (.int (19) 308),e P dF 310 (.ref 102),e P z1 311 .none]
def YO:Obj:=⟨(.type "type"),none,.cls {name:=(Str.ofString "OutOfBank"),bases:=[.ref 31],mro:=[.ref 104,.ref 31,(.type "ValueError"),(.type "Exception"),(.type "BaseException"),(.type "object")],ns:=103,qualname:=(Str.ofString "OutOfBank"),hasDict:=true,slotNames:=[],subclasses:=[],abstract:=false,collection:=none,hasDel:=false}, #[(some (.ref 95)),none,(some (s rM 298)),(some (s rM 306)),(some (.builtin "ValueError.__new__")),(some (.bool true))]⟩
def ZO (P:Params):Obj:=dO 2 [e P bF 321 (s uE 198),e P cF 325 (.int (21) 324),e P dF 326 (.ref 114),e P z1 327 .none]
def aP:Obj:=⟨(.type "type"),none,.cls {name:=(Str.ofString "Taken"),bases:=[.ref 31],mro:=[.ref 116,.ref 31,(.type "ValueError"),(.type "Exception"),(.type "BaseException"),(.type "object")],ns:=115,qualname:=(Str.ofString "Taken"),hasDict:=true,slotNames:=[],subclasses:=[],abstract:=false,collection:=none,hasDel:=false}, #[(some (.ref 107)),none,(some (s sM 314)),(some (s sM 322)),(some (.builtin "ValueError.__new__")),(some (.bool true))]⟩
def bP (P:Params):Obj:=dO 2 [e P bF 337 (s uE 198),e P cF 341 (.int (23) 340),e P dF 342 (.ref 126),e P z1 343 .none]
def cP:Obj:=⟨(.type "type"),none,.cls {name:=(Str.ofString "NotMapped"),bases:=[.ref 31],mro:=[.ref 128,.ref 31,(.type "ValueError"),(.type "Exception"),(.type "BaseException"),(.type "object")],ns:=127,qualname:=(Str.ofString "NotMapped"),hasDict:=true,slotNames:=[],subclasses:=[],abstract:=false,collection:=none,hasDel:=false}, #[(some (.ref 119)),none,(some (s tM 330)),(some (s tM 338)),(some (.builtin "ValueError.__new__")),(some (.bool true))]⟩
def dP (P:Params):Obj:=dO 2 [e P bF 353 (s uE 198),e P cF 357 (.int (25) 356),e P dF 358 (.ref 138),e P z1 359 .none]
def eP:Obj:=⟨(.type "type"),none,.cls {name:=(Str.ofString "NoRight"),bases:=[.ref 31],mro:=[.ref 140,.ref 31,(.type "ValueError"),(.type "Exception"),(.type "BaseException"),(.type "object")],ns:=139,qualname:=(Str.ofString "NoRight"),hasDict:=true,slotNames:=[],subclasses:=[],abstract:=false,collection:=none,hasDel:=false}, #[(some (.ref 131)),none,(some (s uM 346)),(some (s uM 354)),(some (.builtin "ValueError.__new__")),(some (.bool true))]⟩
def fP (P:Params):Obj:=dO 2 [e P bF 369 (s uE 198),e P cF 373 (.int (27) 372),e P dF 374 (.ref 150),e P z1 375 .none]
def gP:Obj:=⟨(.type "type"),none,.cls {name:=(Str.ofString "NoRoom"),bases:=[.ref 31],mro:=[.ref 152,.ref 31,(.type "ValueError"),(.type "Exception"),(.type "BaseException"),(.type "object")],ns:=151,qualname:=(Str.ofString "NoRoom"),hasDict:=true,slotNames:=[],subclasses:=[],abstract:=false,collection:=none,hasDel:=false}, #[(some (.ref 143)),none,(some (s vM 362)),(some (s vM 370)),(some (.builtin "ValueError.__new__")),(some (.bool true))]⟩
def iP:Obj:=tO [s 448545843573 383]
def jP:Obj:=cO [s QM 380,s QM 381,s z2 382,i 30,i 1,i 0,i 0,i 3,.ref 155,(.bool true),i 181,.ref 156,.none,.ref 157,.ref 158,.ref 159,i 384,i 30,s z2 385]
def kP:Obj:=fO "is_whole" "is_whole" (qC 16) (s 154722281479463014256600682153103225703 378) (.ref 160)
def lP:Obj:=tO [s 448545843573 390,s 7893101 391,s 1768450665 392]
def mP:Obj:=cO [s RM 387,s RM 388,s z2 389,i 32,i 3,i 0,i 0,i 3,.ref 162,(.bool true),i 181,.ref 163,.none,.ref 164,.ref 165,.ref 166,i 393,i 32,s z2 394]
def nP:Obj:=fO "is_within" "is_within" (qC 17) (s 154722281479463014256600682153103225703 378) (.ref 167)
def oP:Obj:=tO [s sK 403]
def pP:Obj:=cO [s SM 400,s SM 401,s z2 402,i 36,i 1,i 0,i 0,i 3,.ref 169,(.bool true),i 181,.ref 170,.none,.ref 171,.ref 172,.ref 173,i 404,i 36,s z2 405]
def qP:Obj:=fO "check_rights" "check_rights" (qC 20) (s lF 396) (.ref 174)
def rP:Obj:=tO [s 7304819 410]
def sP:Obj:=cO [s TM 407,s TM 408,s z2 409,i 39,i 1,i 0,i 0,i 3,.ref 176,(.bool true),i 181,.ref 177,.none,.ref 178,.ref 179,.ref 180,i 411,i 39,s z2 412]
def tP:Obj:=fO "end_of" "end_of" (qC 21) (s lF 396) (.ref 181)
def uP:Obj:=tO [s 7304819 417,s mG 418,s 6711925 419]
def vP:Obj:=cO [s UM 414,s UM 415,s z2 416,i 41,i 2,i 0,i 0,i 3,.ref 183,(.bool true),i 181,.ref 184,.none,.ref 185,.ref 186,.ref 187,i 420,i 41,s z2 421]
def wP:Obj:=fO "tie_from" "tie_from" (qC 22) (s lF 396) (.ref 188)
def xP:Obj:=tO [s 7304819 426,s 7893101 427,s 1768450665 428,s JG 429]
def yP:Obj:=cO [s VM 423,s VM 424,s z2 425,i 46,i 3,i 0,i 0,i 3,.ref 190,(.bool true),i 181,.ref 191,.none,.ref 192,.ref 193,.ref 194,i 430,i 46,s z2 431]
def zP:Obj:=fO "part_of" "part_of" (qC 23) (s lF 396) (.ref 195)
def BP:Obj:=tO [s 7304819 436,s 495640207981 437]
def CP:Obj:=cO [s WM 433,s WM 434,s z2 435,i 49,i 2,i 0,i 0,i 3,.ref 197,(.bool true),i 181,.ref 198,.none,.ref 199,.ref 200,.ref 201,i 438,i 49,s z2 439]
def DP:Obj:=fO "goes_on" "goes_on" (qC 24) (s lF 396) (.ref 202)
def IU:Obj:=tO [s 1953461875 444,s 495640405607 445,s 7304819 446,s 1970561645 447]
def JU:Obj:=cO [s 111490630316139 441,s 111490630316139 442,s z2 443,i 51,i 1,i 0,i 0,i 3,.ref 204,(.bool true),i 181,.ref 205,.none,.ref 206,.ref 207,.ref 208,i 448,i 51,s z2 449]
def KU:Obj:=fO "joined" "joined" (qC 25) (s lF 396) (.ref 209)
def LU:Obj:=tO [s kD 466]
def MU:Obj:=cO [s tK 463,s 8395602628992143088491004079736651362039124 464,s z2 465,i 62,i 1,i 0,i 0,i 3,.ref 218,(.bool true),i 181,.ref 219,.none,.ref 220,.ref 221,.ref 222,i 467,i 62,s z2 468]
def NU:Obj:=fO "__init__" "Stretches.__init__" (dC (qC 26) 0) (s lF 396) (.ref 223)
def OU:Obj:=⟨(.type "tuple"),none,.seq #[.none] 0, #[]⟩
def PU:Obj:=tO [s kD 473,s JG 474,s nG 475,s sK 476,s 6711925 477]
def QU:Obj:=cO [s 7698033 470,s 9306351078043889216994357245268 471,s z2 472,i 65,i 5,i 0,i 0,i 3,.ref 226,(.bool true),i 181,.ref 227,.none,.ref 228,.ref 229,.ref 230,i 478,i 65,s z2 479]
def RU:Obj:=⟨(.type "function"),none,.func (W.fnOf (Str.ofString "put") (Str.ofString "Stretches.put") (zC (dC (qC 26) 1)) (xC (dC (qC 26) 1)) (cC (dC (qC 26) 1)) (.ref 225) .none .none (s lF 396) none (.ref 231) .none), #[]⟩
def SU:Obj:=tO [s kD 484,s JG 485,s nG 486]
def TU:Obj:=cO [s 7698020 481,s 9306335362008234226815086064980 482,s z2 483,i 71,i 3,i 0,i 0,i 3,.ref 233,(.bool true),i 181,.ref 234,.none,.ref 235,.ref 236,.ref 237,i 487,i 71,s z2 488]
def UU:Obj:=fO "cut" "Stretches.cut" (dC (qC 26) 2) (s lF 396) (.ref 238)
def VU:Obj:=tO [s kD 493,s JG 494,s nG 495,s sK 496]
def WU:Obj:=cO [s XM 490,s 526762260821547473070605117598954836 491,s z2 492,i 74,i 4,i 0,i 0,i 3,.ref 240,(.bool true),i 181,.ref 241,.none,.ref 242,.ref 243,.ref 244,i 497,i 74,s z2 498]
def XU:Obj:=fO "guard" "Stretches.guard" (dC (qC 26) 3) (s lF 396) (.ref 245)
def YU:Obj:=tO [s kD 503,s JG 504,s nG 505]
def ZU:Obj:=cO [s 516757173630863403280740 500,s 624721089673430778640529783835705258327388943700 501,s z2 502,i 77,i 3,i 0,i 0,i 3,.ref 247,(.bool true),i 181,.ref 248,.none,.ref 249,.ref 250,.ref 251,i 506,i 77,s z2 507]
def aV:Obj:=fO "check_full" "Stretches.check_full" (dC (qC 26) 4) (s lF 396) (.ref 252)
def cV:Obj:=tO [s kD 512,s mG 513,s 1970496113 514]
def eV:Obj:=cO [s EQ 509,s 2617757014156703991004303271023538183198700884 510,s z2 511,i 80,i 2,i 0,i 0,i 3,.ref 254,(.bool true),i 181,.ref 255,.none,.ref 256,.ref 257,.ref 258,i 515,i 80,s z2 516]
def fV:Obj:=fO "rights_at" "Stretches.rights_at" (dC (qC 26) 5) (s lF 396) (.ref 259)
def hV:Obj:=tO [s kD 521,s mG 522,s 1970496113 523]
def iV:Obj:=cO [s 129065384569461 518,s 156030475824513176713048584412386784596 519,s z2 520,i 84,i 2,i 0,i 0,i 3,.ref 261,(.bool true),i 181,.ref 262,.none,.ref 263,.ref 264,.ref 265,i 524,i 84,s z2 525]
def jV:Obj:=fO "tie_at" "Stretches.tie_at" (dC (qC 26) 6) (s lF 396) (.ref 266)
def lV:Obj:=tO [s kD 530,s JG 531,s nG 532]
def mV:Obj:=cO [s 28823093466133610 527,s 34844981892374637606343691086821957268820 528,s z2 529,i 88,i 3,i 0,i 0,i 3,.ref 268,(.bool true),i 181,.ref 269,.none,.ref 270,.ref 271,.ref 272,i 533,i 88,s z2 534]
def nV:Obj:=fO "is_free" "Stretches.is_free" (dC (qC 26) 7) (s lF 396) (.ref 273)
def oV:Obj:=tO [s kD 539,s JG 540,s nG 541]
def pV:Obj:=cO [s 30801127769404522 536,s 37236278633682276866180525579755284821332 537,s z2 538,i 91,i 3,i 0,i 0,i 3,.ref 275,(.bool true),i 181,.ref 276,.none,.ref 277,.ref 278,.ref 279,i 542,i 91,s z2 543]
def qV:Obj:=fO "is_full" "Stretches.is_full" (dC (qC 26) 8) (s lF 396) (.ref 280)
def rV:Obj:=tO [s kD 548,s sI 549]
def sV:Obj:=cO [s 28541580069598314 545,s 34504653078735706780555045640184744080724 546,s z2 547,i 94,i 2,i 0,i 0,i 3,.ref 282,(.bool true),i 181,.ref 283,.none,.ref 284,.ref 285,.ref 286,i 550,i 94,s z2 551]
def tV:Obj:=fO "is_tied" "Stretches.is_tied" (dC (qC 26) 9) (s lF 396) (.ref 287)
def uV:Obj:=tO [s kD 556]
def vV:Obj:=cO [s 1701671029 553,s 2057194043672392837723022735668564 554,s z2 555,i 97,i 1,i 0,i 0,i 3,.ref 289,(.bool true),i 181,.ref 290,.none,.ref 291,.ref 292,.ref 293,i 557,i 97,s z2 558]
def wV:Obj:=fO "told" "Stretches.told" (dC (qC 26) 10) (s lF 396) (.ref 294)
def xV:Obj:=tO [s kD 563,s 495639426416 564]
def yV:Obj:=cO [s 111490546888804 560,s 134783800776830844550708368151093146964 561,s z2 562,i 100,i 1,i 0,i 0,i 3,.ref 296,(.bool true),i 181,.ref 297,.none,.ref 298,.ref 299,.ref 300,i 565,i 100,s z2 566]
def zV:Obj:=fO "copied" "Stretches.copied" (dC (qC 26) 11) (s lF 396) (.ref 301)
def AV:Obj:=tO [s kD 571,s mG 572,s 7893101 573,s 1768450665 574,s 112620038613614 575]
def BV:Obj:=cO [s 31392679273066234308940950897 568,s 37951420520090778506602714804950266613495697467733332 569,s z2 570,i 105,i 2,i 0,i 0,i 3,.ref 303,(.bool true),i 181,.ref 304,.none,.ref 305,.ref 306,.ref 307,i 576,i 105,s z2 577]
def CV:Obj:=fO "place_behind" "Stretches.place_behind" (dC (qC 26) 12) (s lF 396) (.ref 308)
def DV:Obj:=cO [s 478922323667592571740785 579,s 578981562671587066094221509702201825946659681620 580,s z2 581,i 116,i 3,i 0,i 0,i 3,.ref 310,(.bool true),i 181,.ref 311,.none,.none,.none,.ref 312,i 582,i 116,s z2 583]
def EV:Obj:=fO "parts_amid" "Stretches.parts_amid" (dC (qC 26) 13) (s lF 396) (.ref 313)
def FV:Obj:=tO [s kD 588,s mG 589,s 500186702449 590]
def GV:Obj:=cO [s 33040738702025329 585,s 39943802116018770004276114331333133825364 586,s z2 587,i 121,i 2,i 0,i 0,i 3,.ref 315,(.bool true),i 181,.ref 316,.none,.ref 317,.ref 318,.ref 319,i 591,i 121,s z2 592]
def HV:Obj:=fO "part_at" "Stretches.part_at" (dC (qC 26) 14) (s lF 396) (.ref 320)
def IV:Obj:=cO [s 7307774714166534765 594,s 8834557535882840484900534439152844413302100 595,s z2 596,i 125,i 4,i 0,i 0,i 3,.ref 322,(.bool true),i 181,.ref 323,.none,.none,.none,.ref 324,i 597,i 125,s z2 598]
def JV:Obj:=fO "lay_amid" "Stretches.lay_amid" (dC (qC 26) 15) (s lF 396) (.ref 325)
def LV:Obj:=⟨(.type "tuple"),none,.seq #[(.str "runs" 600)] 0, #[]⟩
def MV (P:Params):Obj:=dO 4 [e P bF 458 (s lF 396),e P cF 462 (.int (60) 461),e P tK 469 (.ref 224),e P 7698033 480 (.ref 232),e P 7698020 489 (.ref 239),e P XM 499 (.ref 246),e P 516757173630863403280740 508 (.ref 253),e P EQ 517 (.ref 260),e P 129065384569461 526 (.ref 267),e P 28823093466133610 535 (.ref 274),e P 30801127769404522 544 (.ref 281),e P 28541580069598314 552 (.ref 288),e P 1701671029 559 (.ref 295),e P 111490546888804 567 (.ref 302),e P 31392679273066234308940950897 578 (.ref 309),e P 478922323667592571740785 584 (.ref 314),e P 33040738702025329 593 (.ref 321),e P 7307774714166534765 599 (.ref 326),e P dF 601 (.ref 327),e P uK 603 (.ref 330),e P qI 605 (.ref 331),e P z1 606 .none]
def NV:Obj:=⟨(.type "type"),none,.cls {name:=(Str.ofString "Stretches"),bases:=[(.type "object")],mro:=[.ref 329,(.type "object")],ns:=328,qualname:=(Str.ofString "Stretches"),hasDict:=true,slotNames:=[],subclasses:=[],abstract:=false,collection:=none,hasDel:=false}, #[none,none,(some (s 2147201852470124049748 451)),(some (s 2147201852470124049748 459)),(some (.builtin "object.__new__")),(some (.bool true))]⟩
def OV:Obj:=⟨(.type "getset_descriptor"),none,.fields ⟨[s uK 602,.ref 329,(.builtin "function.__dict__"),(.builtin "function.__dict__#set")]⟩, #[]⟩
def PV:Obj:=⟨(.type "getset_descriptor"),none,.fields ⟨[s qI 604,.ref 329,(.builtin "ExceptionGroup.__weakref__"),.none]⟩, #[]⟩
def QV:Obj:=tO [s 32777980890478191 616,s wM 617]
def RV:Obj:=cO [s BU 613,s BU 614,s z2 615,i 135,i 1,i 0,i 0,i 3,.ref 334,(.bool true),i 181,.ref 335,.none,.ref 336,.ref 337,.ref 338,i 618,i 135,s z2 619]
def SV:Obj:=fO "least_free" "least_free" (qC 29) (s qF 609) (.ref 339)
def TV:Obj:=tO [s kD 636,s 439988939124 637]
def UV:Obj:=cO [s tK 633,s 1954753563970360692704735984513097 634,s z2 635,i 142,i 2,i 0,i 0,i 3,.ref 348,(.bool true),i 181,.ref 349,.none,.ref 350,.ref 351,.ref 352,i 638,i 142,s z2 639]
def VV:Obj:=fO "__init__" "House.__init__" (dC (qC 30) 0) (s qF 609) (.ref 353)
def WV:Obj:=tO [s kD 644,s jF 645]
def XV:Obj:=cO [s FQ 641,s 2199721175476886628490265163624521 642,s z2 643,i 147,i 1,i 0,i 0,i 3,.ref 355,(.bool true),i 181,.ref 356,.none,.ref 357,.ref 358,.ref 359,i 646,i 147,s z2 647]
def YV:Obj:=fO "new_task" "House.new_task" (dC (qC 30) 1) (s qF 609) (.ref 360)
def ZV:Obj:=tO [s kD 652,s jF 653,s 495639426416 654]
def aW:Obj:=cO [s 1819504743 649,s 512145055212970217730121 650,s z2 651,i 152,i 2,i 0,i 0,i 3,.ref 362,(.bool true),i 181,.ref 363,.none,.ref 364,.ref 365,.ref 366,i 655,i 152,s z2 656]
def bW:Obj:=fO "fork" "House.fork" (dC (qC 30) 2) (s qF 609) (.ref 367)
def cW:Obj:=tO [s kD 661,s jF 662]
def dW:Obj:=cO [s GQ 658,s 2199721175476536786337936233099337 659,s z2 660,i 158,i 2,i 0,i 0,i 3,.ref 369,(.bool true),i 181,.ref 370,.none,.ref 371,.ref 372,.ref 373,i 663,i 158,s z2 664]
def eW:Obj:=fO "end_task" "House.end_task" (dC (qC 30) 3) (s qF 609) (.ref 374)
def fW:Obj:=tO [s kD 669,s nG 670,s sI 671]
def gW:Obj:=cO [s HQ 666,s 2199325012903650553738972299161673 667,s z2 668,i 161,i 2,i 0,i 0,i 3,.ref 376,(.bool true),i 181,.ref 377,.none,.ref 378,.ref 379,.ref 380,i 672,i 161,s z2 673]
def hW:Obj:=fO "new_bank" "House.new_bank" (dC (qC 30) 4) (s qF 609) (.ref 381)
def iW:Obj:=tO [s kD 678,s sI 679]
def jW:Obj:=cO [s IQ 675,s 563027203303301669962607049756274761 676,s z2 677,i 168,i 2,i 0,i 0,i 3,.ref 383,(.bool true),i 181,.ref 384,.none,.ref 385,.ref 386,.ref 387,i 680,i 168,s z2 681]
def kW:Obj:=fO "drop_bank" "House.drop_bank" (dC (qC 30) 5) (s qF 609) (.ref 388)
def lW:Obj:=⟨(.type "tuple"),none,.seq #[.none,(.int (0) 683)] 0, #[]⟩
def mW:Obj:=tO [s kD 687,s jF 688,s JG 689,s nG 690,s sK 691,s sI 692,s 504447006068 693,s 6711925 694]
def nW:Obj:=cO [s 8020589 684,s 2257595154097830785097 685,s z2 686,i 171,i 7,i 0,i 0,i 3,.ref 391,(.bool true),i 181,.ref 392,.none,.ref 393,.ref 394,.ref 395,i 695,i 171,s z2 696]
def oW:Obj:=⟨(.type "function"),none,.func (W.fnOf (Str.ofString "lay") (Str.ofString "House.lay") (zC (dC (qC 30) 6)) (xC (dC (qC 30) 6)) (cC (dC (qC 30) 6)) (.ref 390) .none .none (s qF 609) none (.ref 396) .none), #[]⟩
def pW:Obj:=tO [s kD 701,s jF 702,s JG 703,s nG 704]
def qW:Obj:=cO [s 1969711725 698,s 554424561973198142730313 699,s z2 700,i 180,i 4,i 0,i 0,i 3,.ref 398,(.bool true),i 181,.ref 399,.none,.ref 400,.ref 401,.ref 402,i 705,i 180,s z2 706]
def rW:Obj:=fO "lift" "House.lift" (dC (qC 30) 7) (s qF 609) (.ref 403)
def sW:Obj:=tO [s kD 711,s jF 712,s JG 713,s nG 714,s sK 715]
def tW:Obj:=cO [s XM 708,s 122646396239648390521450569 709,s z2 710,i 183,i 5,i 0,i 0,i 3,.ref 405,(.bool true),i 181,.ref 406,.none,.ref 407,.ref 408,.ref 409,i 716,i 183,s z2 717]
def uW:Obj:=fO "guard" "House.guard" (dC (qC 30) 8) (s qF 609) (.ref 410)
def vW:Obj:=tO [s kD 722,s jF 723,s xM 724,s 1970233976 725,s 500186702449 726,s sK 727]
def wW:Obj:=cO [s 435510080610 719,s 122585189797007784293068873 720,s z2 721,i 186,i 4,i 0,i 0,i 3,.ref 412,(.bool true),i 181,.ref 413,.none,.ref 414,.ref 415,.ref 416,i 728,i 186,s z2 729]
def xW:Obj:=fO "asked" "House.asked" (dC (qC 30) 9) (s qF 609) (.ref 417)
def yW:Obj:=tO [s kD 734]
def zW:Obj:=cO [s JQ 731,s 609859923998260050033739136169832521 732,s z2 733,i 196,i 1,i 0,i 0,i 3,.ref 419,(.bool true),i 181,.ref 420,.none,.ref 421,.ref 422,.ref 423,i 735,i 196,s z2 736]
def AW:Obj:=fO "task_list" "House.task_list" (dC (qC 30) 10) (s qF 609) (.ref 424)
def BW:Obj:=tO [s kD 741]
def CW:Obj:=cO [s KQ 738,s 609859923998259957794952218041282633 739,s z2 740,i 199,i 1,i 0,i 0,i 3,.ref 426,(.bool true),i 181,.ref 427,.none,.ref 428,.ref 429,.ref 430,i 742,i 199,s z2 743]
def DW:Obj:=fO "bank_list" "House.bank_list" (dC (qC 30) 11) (s qF 609) (.ref 431)
def EW:Obj:=tO [s kD 748,s sI 749]
def FW:Obj:=cO [s 1890460943890055651939 745,s 532117450153858173809377884935450697 746,s z2 747,i 202,i 2,i 0,i 0,i 3,.ref 433,(.bool true),i 181,.ref 434,.none,.ref 435,.ref 436,.ref 437,i 750,i 202,s z2 751]
def GW:Obj:=fO "bank_size" "House.bank_size" (dC (qC 30) 12) (s qF 609) (.ref 438)
def HW:Obj:=tO [s kD 756,s jF 757]
def IW:Obj:=cO [s LQ 753,s 9010805286337637281539545668179908239978569 754,s z2 755,i 205,i 2,i 0,i 0,i 3,.ref 440,(.bool true),i 181,.ref 441,.none,.ref 442,.ref 443,.ref 444,i 758,i 205,s z2 759]
def JW:Obj:=fO "stretches_of" "House.stretches_of" (dC (qC 30) 13) (s qF 609) (.ref 445)
def KW:Obj:=tO [s kD 764,s jF 765,s mG 766]
def LW:Obj:=cO [s EQ 761,s 609494050535537300399575152849219657 762,s z2 763,i 209,i 3,i 0,i 0,i 3,.ref 447,(.bool true),i 181,.ref 448,.none,.ref 449,.ref 450,.ref 451,i 767,i 209,s z2 768]
def MW:Obj:=fO "rights_at" "House.rights_at" (dC (qC 30) 14) (s qF 609) (.ref 452)
def NW:Obj:=tO [s kD 773,s jF 774,s mG 775]
def OW:Obj:=cO [s 129065384569461 770,s 36328676115840947361617965129 771,s z2 772,i 213,i 3,i 0,i 0,i 3,.ref 454,(.bool true),i 181,.ref 455,.none,.ref 456,.ref 457,.ref 458,i 776,i 213,s z2 777]
def QW:Obj:=fO "tie_at" "House.tie_at" (dC (qC 30) 15) (s qF 609) (.ref 459)
def RW:Obj:=cO [s 7453563436348760689 779,s 2097991594657664520040000427290697 780,s z2 781,i 217,i 2,i 0,i 0,i 3,.ref 461,(.bool true),i 181,.ref 462,.none,.none,.none,.ref 463,i 782,i 217,s z2 783]
def SW:Obj:=fO "pages_of" "House.pages_of" (dC (qC 30) 16) (s qF 609) (.ref 464)
def TW:Obj:=tO [s kD 788,s jF 789]
def UW:Obj:=cO [s 512162497145278640318820 785,s 144160926956038725368327681379818434633 786,s z2 787,i 223,i 2,i 0,i 0,i 3,.ref 466,(.bool true),i 181,.ref 467,.none,.ref 468,.ref 469,.ref 470,i 790,i 223,s z2 791]
def VW:Obj:=fO "check_task" "House.check_task" (dC (qC 30) 17) (s qF 609) (.ref 471)
def WW:Obj:=tO [s kD 796,s sI 797]
def YW:Obj:=cO [s 512070258358360511768932 793,s 144134964045639125973426952214381228105 794,s z2 795,i 227,i 2,i 0,i 0,i 3,.ref 473,(.bool true),i 181,.ref 474,.none,.ref 475,.ref 476,.ref 477,i 798,i 227,s z2 799]
def ZW:Obj:=fO "check_bank" "House.check_bank" (dC (qC 30) 18) (s qF 609) (.ref 478)
def aX:Obj:=tO [s kD 804,s jF 805,s JG 806,s nG 807]
def bX:Obj:=cO [s 8350047493112005182606836918628 801,s 2350329423656573175351140194157426667259588681 802,s z2 803,i 231,i 4,i 0,i 0,i 3,.ref 480,(.bool true),i 181,.ref 481,.none,.ref 482,.ref 483,.ref 484,i 808,i 231,s z2 809]
def cX:Obj:=fO "check_stretch" "House.check_stretch" (dC (qC 30) 19) (s qF 609) (.ref 485)
def dX:Obj:=tO [s kD 814,s sI 815,s 504447006068 816,s nG 817]
def eX:Obj:=cO [s 9446029003694613325605449134053798776826212 811,s 2658820793823122384803673107998479853226123854532207603785 812,s z2 813,i 236,i 4,i 0,i 0,i 3,.ref 487,(.bool true),i 181,.ref 488,.none,.ref 489,.ref 490,.ref 491,i 818,i 236,s z2 819]
def fX:Obj:=fO "check_part_of_bank" "House.check_part_of_bank" (dC (qC 30) 20) (s qF 609) (.ref 492)
def gX:Obj:=⟨(.type "tuple"),none,.seq #[(.str "banks" 821),(.str "shape" 822),(.str "tasks" 823)] 0, #[]⟩
def hX (P:Params):Obj:=dO 4 [e P bF 628 (s qF 609),e P cF 632 (.int (140) 631),e P tK 640 (.ref 354),e P FQ 648 (.ref 361),e P 1819504743 657 (.ref 368),e P GQ 665 (.ref 375),e P HQ 674 (.ref 382),e P IQ 682 (.ref 389),e P 8020589 697 (.ref 397),e P 1969711725 707 (.ref 404),e P XM 718 (.ref 411),e P 435510080610 730 (.ref 418),e P JQ 737 (.ref 425),e P KQ 744 (.ref 432),e P 1890460943890055651939 752 (.ref 439),e P LQ 760 (.ref 446),e P EQ 769 (.ref 453),e P 129065384569461 778 (.ref 460),e P 7453563436348760689 784 (.ref 465),e P 512162497145278640318820 792 (.ref 472),e P 512070258358360511768932 800 (.ref 479),e P 8350047493112005182606836918628 810 (.ref 486),e P 9446029003694613325605449134053798776826212 820 (.ref 493),e P dF 824 (.ref 494),e P uK 826 (.ref 497),e P qI 828 (.ref 498),e P z1 829 .none]
def iX:Obj:=⟨(.type "type"),none,.cls {name:=(Str.ofString "House"),bases:=[(.type "object")],mro:=[.ref 496,(.type "object")],ns:=495,qualname:=(Str.ofString "House"),hasDict:=true,slotNames:=[],subclasses:=[],abstract:=false,collection:=none,hasDel:=false}, #[none,none,(some (s 440040583241 621)),(some (s 440040583241 629)),(some (.builtin "object.__new__")),(some (.bool true))]⟩
def jX:Obj:=⟨(.type "getset_descriptor"),none,.fields ⟨[s uK 825,.ref 496,(.builtin "function.__dict__"),(.builtin "function.__dict__#set")]⟩, #[]⟩
def kX:Obj:=⟨(.type "getset_descriptor"),none,.fields ⟨[s qI 827,.ref 496,(.builtin "ExceptionGroup.__weakref__"),.none]⟩, #[]⟩
def lX:Obj:=tO [s kD 849,s 439988939124 850,s 1970565230 851]
def mX:Obj:=cO [s tK 846,s 1954753563970360692704796012998739 847,s z2 848,i 243,i 3,i 0,i 0,i 3,.ref 508,(.bool true),i 181,.ref 509,.none,.ref 510,.ref 511,.ref 512,i 852,i 243,s z2 853]
def nX:Obj:=fO "__init__" "Rooms.__init__" (dC (qC 32) 0) (s WE 832) (.ref 513)
def oX:Obj:=tO [s kD 858,s jF 859]
def pX:Obj:=cO [s FQ 855,s 2199721175476886628490325192110163 856,s z2 857,i 253,i 1,i 0,i 0,i 3,.ref 515,(.bool true),i 181,.ref 516,.none,.ref 517,.ref 518,.ref 519,i 860,i 253,s z2 861]
def qX:Obj:=fO "new_task" "Rooms.new_task" (dC (qC 32) 1) (s WE 832) (.ref 520)
def rX:Obj:=tO [s kD 866,s jF 867,s 495639426416 868,s wM 869]
def sX:Obj:=cO [s 1819504743 863,s 512145055213030246215763 864,s z2 865,i 258,i 2,i 0,i 0,i 3,.ref 522,(.bool true),i 181,.ref 523,.none,.ref 524,.ref 525,.ref 526,i 870,i 258,s z2 871]
def tX:Obj:=fO "fork" "Rooms.fork" (dC (qC 32) 2) (s WE 832) (.ref 527)
def uX:Obj:=tO [s kD 876,s jF 877]
def vX:Obj:=cO [s GQ 873,s 2199721175476536786337996261584979 874,s z2 875,i 265,i 2,i 0,i 0,i 3,.ref 529,(.bool true),i 181,.ref 530,.none,.ref 531,.ref 532,.ref 533,i 878,i 265,s z2 879]
def wX:Obj:=fO "end_task" "Rooms.end_task" (dC (qC 32) 3) (s WE 832) (.ref 534)
def xX:Obj:=tO [s kD 884,s nG 885,s sI 886]
def yX:Obj:=cO [s HQ 881,s 2199325012903650553739032327647315 882,s z2 883,i 268,i 2,i 0,i 0,i 3,.ref 536,(.bool true),i 181,.ref 537,.none,.ref 538,.ref 539,.ref 540,i 887,i 268,s z2 888]
def zX:Obj:=fO "new_bank" "Rooms.new_bank" (dC (qC 32) 4) (s WE 832) (.ref 541)
def AX:Obj:=tO [s kD 893,s sI 894]
def BX:Obj:=cO [s IQ 890,s 563027203303301669962607109784760403 891,s z2 892,i 273,i 2,i 0,i 0,i 3,.ref 543,(.bool true),i 181,.ref 544,.none,.ref 545,.ref 546,.ref 547,i 895,i 273,s z2 896]
def DX:Obj:=fO "drop_bank" "Rooms.drop_bank" (dC (qC 32) 5) (s WE 832) (.ref 548)
def EX:Obj:=⟨(.type "tuple"),none,.seq #[.none,(.int (0) 898)] 0, #[]⟩
def FX:Obj:=tO [s kD 902,s jF 903,s JG 904,s nG 905,s sK 906,s sI 907,s 504447006068 908]
def GX:Obj:=cO [s 8020589 899,s 2257595154157859270739 900,s z2 901,i 276,i 7,i 0,i 0,i 3,.ref 551,(.bool true),i 181,.ref 552,.none,.ref 553,.ref 554,.ref 555,i 909,i 276,s z2 910]
def HX:Obj:=⟨(.type "function"),none,.func (W.fnOf (Str.ofString "lay") (Str.ofString "Rooms.lay") (zC (dC (qC 32) 6)) (xC (dC (qC 32) 6)) (cC (dC (qC 32) 6)) (.ref 550) .none .none (s WE 832) none (.ref 556) .none), #[]⟩
def IX:Obj:=tO [s kD 915,s jF 916,s JG 917,s nG 918]
def JX:Obj:=cO [s 1969711725 912,s 554424561973258171215955 913,s z2 914,i 279,i 4,i 0,i 0,i 3,.ref 558,(.bool true),i 181,.ref 559,.none,.ref 560,.ref 561,.ref 562,i 919,i 279,s z2 920]
def LX:Obj:=fO "lift" "Rooms.lift" (dC (qC 32) 7) (s WE 832) (.ref 563)
def MX:Obj:=tO [s kD 925,s jF 926,s JG 927,s nG 928,s sK 929]
def NX:Obj:=cO [s XM 922,s 122646396239648450549936211 923,s z2 924,i 282,i 5,i 0,i 0,i 3,.ref 565,(.bool true),i 181,.ref 566,.none,.ref 567,.ref 568,.ref 569,i 930,i 282,s z2 931]
def OX:Obj:=fO "guard" "Rooms.guard" (dC (qC 32) 8) (s WE 832) (.ref 570)
def PX:Obj:=tO [s kD 936,s jF 937,s xM 938,s 500186702449 939]
def QX:Obj:=cO [s 1700947571 933,s 478774177985449008590931 934,s z2 935,i 285,i 3,i 0,i 0,i 3,.ref 572,(.bool true),i 181,.ref 573,.none,.ref 574,.ref 575,.ref 576,i 940,i 285,s z2 941]
def RX:Obj:=fO "read" "Rooms.read" (dC (qC 32) 9) (s WE 832) (.ref 577)
def SX:Obj:=tO [s kD 946,s jF 947,s xM 948,s 440073544311 949,s 500186702449 950]
def TX:Obj:=cO [s 440056574840 943,s 123864914154512226205069395 944,s z2 945,i 289,i 4,i 0,i 0,i 3,.ref 579,(.bool true),i 181,.ref 580,.none,.ref 581,.ref 582,.ref 583,i 951,i 289,s z2 952]
def UX:Obj:=fO "write" "Rooms.write" (dC (qC 32) 10) (s WE 832) (.ref 584)
def VX:Obj:=tO [s kD 957,s 112645993096803 958,s 2360878370155222899437929793546855 959,s jF 960]
def WX:Obj:=cO [s 1701671015 954,s 478977809368500472410195 955,s z2 956,i 293,i 1,i 0,i 0,i 3,.ref 586,(.bool true),i 181,.ref 587,.none,.ref 588,.ref 589,.ref 590,i 961,i 293,s z2 962]
def XX:Obj:=fO "fold" "Rooms.fold" (dC (qC 32) 11) (s WE 832) (.ref 591)
def YX:Obj:=tO [s kD 967]
def ZX:Obj:=cO [s JQ 964,s 609859923998260050033739196198318163 965,s z2 966,i 300,i 1,i 0,i 0,i 3,.ref 593,(.bool true),i 181,.ref 594,.none,.ref 595,.ref 596,.ref 597,i 968,i 300,s z2 969]
def aY:Obj:=fO "task_list" "Rooms.task_list" (dC (qC 32) 12) (s WE 832) (.ref 598)
def bY:Obj:=tO [s kD 974]
def cY:Obj:=cO [s KQ 971,s 609859923998259957794952278069768275 972,s z2 973,i 303,i 1,i 0,i 0,i 3,.ref 600,(.bool true),i 181,.ref 601,.none,.ref 602,.ref 603,.ref 604,i 975,i 303,s z2 976]
def dY:Obj:=fO "bank_list" "Rooms.bank_list" (dC (qC 32) 13) (s WE 832) (.ref 605)
def eY:Obj:=tO [s kD 981,s jF 982]
def fY:Obj:=cO [s LQ 978,s 9010805286337637281539545668179968268464211 979,s z2 980,i 306,i 2,i 0,i 0,i 3,.ref 607,(.bool true),i 181,.ref 608,.none,.ref 609,.ref 610,.ref 611,i 983,i 306,s z2 984]
def gY:Obj:=fO "stretches_of" "Rooms.stretches_of" (dC (qC 32) 14) (s WE 832) (.ref 612)
def iY:Obj:=cO [s 34449212995692148 986,s 9696591425662875424532162703443 987,s z2 988,i 309,i 2,i 0,i 0,i 3,.ref 614,(.bool true),i 181,.ref 615,.none,.none,.none,.ref 616,i 989,i 309,s z2 990]
def jY:Obj:=fO "seen_by" "Rooms.seen_by" (dC (qC 32) 15) (s WE 832) (.ref 617)
def kY:Obj:=tO [s kD 995]
def lY:Obj:=cO [s 140789800901245672938236525 992,s 39628805929776020909669620356470931484755 993,s z2 994,i 312,i 1,i 0,i 0,i 3,.ref 619,(.bool true),i 181,.ref 620,.none,.ref 621,.ref 622,.ref 623,i 996,i 312,s z2 997]
def mY:Obj:=fO "live_sheets" "Rooms.live_sheets" (dC (qC 32) 16) (s WE 832) (.ref 624)
def nY:Obj:=tO [s kD 1002,s jF 1003,s mG 1004,s 6711925 1005,s YM 1006,s wM 1007]
def oY:Obj:=cO [s 478762002804 999,s 134759523589255099684253779 1000,s z2 1001,i 315,i 4,i 0,i 0,i 3,.ref 626,(.bool true),i 181,.ref 627,.none,.ref 628,.ref 629,.ref 630,i 1008,i 315,s z2 1009]
def pY:Obj:=fO "shown" "Rooms.shown" (dC (qC 32) 17) (s WE 832) (.ref 631)
def qY:Obj:=tO [s kD 1014]
def rY:Obj:=cO [s 32780192883044463 1011,s 9226804028325751835527849472083 1012,s z2 1013,i 320,i 1,i 0,i 0,i 3,.ref 633,(.bool true),i 181,.ref 634,.none,.ref 635,.ref 636,.ref 637,i 1015,i 320,s z2 1016]
def sY:Obj:=fO "noughts" "Rooms.noughts" (dC (qC 32) 18) (s WE 832) (.ref 638)
def tY:Obj:=tO [s kD 1021,s jF 1022,s mG 1023,s 6711925 1024]
def uY:Obj:=cO [s 8032497800187927056105972590964 1018,s 2260947131236292320297530778482347951583686739 1019,s z2 1020,i 323,i 3,i 0,i 0,i 3,.ref 640,(.bool true),i 181,.ref 641,.none,.ref 642,.ref 643,.ref 644,i 1025,i 323,s z2 1026]
def vY:Obj:=fO "sheet_to_read" "Rooms.sheet_to_read" (dC (qC 32) 19) (s WE 832) (.ref 645)
def wY:Obj:=tO [s kD 1031,s jF 1032,s mG 1033,s YM 1034,s wM 1035]
def xY:Obj:=cO [s 2078108419592612597865299602467188 1028,s 584935519007048777795440555185823689555525529683 1029,s z2 1030,i 329,i 3,i 0,i 0,i 3,.ref 647,(.bool true),i 181,.ref 648,.none,.ref 649,.ref 650,.ref 651,i 1036,i 329,s z2 1037]
def yY:Obj:=fO "sheet_to_write" "Rooms.sheet_to_write" (dC (qC 32) 20) (s WE 832) (.ref 652)
def zY:Obj:=tO [s kD 1042,s YM 1043,s mG 1044]
def AY:Obj:=cO [s 123855394913203706996877684 1039,s 34862194398683115037494871830585806975059 1040,s z2 1041,i 337,i 3,i 0,i 0,i 3,.ref 654,(.bool true),i 181,.ref 655,.none,.ref 656,.ref 657,.ref 658,i 1045,i 337,s z2 1046]
def BY:Obj:=fO "sheet_there" "Rooms.sheet_there" (dC (qC 32) 21) (s WE 832) (.ref 659)
def CY:Obj:=tO [s kD 1051,s YM 1052,s 2360878370155222899437929793546855 1053,s mG 1054,s wM 1055]
def DY:Obj:=cO [s 549683601607383713673319 1048,s 154722178960667841812885269966685761619 1049,s z2 1050,i 342,i 3,i 0,i 0,i 3,.ref 661,(.bool true),i 181,.ref 662,.none,.ref 663,.ref 664,.ref 665,i 1056,i 342,s z2 1057]
def EY:Obj:=fO "fold_pages" "Rooms.fold_pages" (dC (qC 32) 22) (s WE 832) (.ref 666)
def FY:Obj:=tO [s kD 1062,s 499935440995 1063,s wM 1064]
def GY:Obj:=cO [s 2165647757612066301551 1059,s 609575652137340752373089254486601811 1060,s z2 1061,i 350,i 2,i 0,i 0,i 3,.ref 668,(.bool true),i 181,.ref 669,.none,.ref 670,.ref 671,.ref 672,i 1065,i 350,s z2 1066]
def HY:Obj:=fO "new_sheet" "Rooms.new_sheet" (dC (qC 32) 23) (s WE 832) (.ref 673)
def IY:Obj:=tO [s kD 1071,s YM 1072,s mG 1073,s wM 1074]
def JY:Obj:=cO [s 135892596177744215321962093 1068,s 38250365344281133571179105536106176737363 1069,s z2 1070,i 359,i 3,i 0,i 0,i 3,.ref 675,(.bool true),i 181,.ref 676,.none,.ref 677,.ref 678,.ref 679,i 1075,i 359,s z2 1076]
def KY:Obj:=fO "let_page_go" "Rooms.let_page_go" (dC (qC 32) 24) (s WE 832) (.ref 680)
def LY:Obj:=tO [s kD 1081,s YM 1082]
def MY:Obj:=cO [s 530830455795135452374637 1078,s 149415490182242660767447924803577606227 1079,s z2 1080,i 368,i 2,i 0,i 0,i 3,.ref 682,(.bool true),i 181,.ref 683,.none,.ref 684,.ref 685,.ref 686,i 1083,i 368,s z2 1084]
def NY:Obj:=fO "let_all_go" "Rooms.let_all_go" (dC (qC 32) 25) (s WE 832) (.ref 687)
def OY:Obj:=⟨(.type "tuple"),none,.seq #[(.str "banked" 1086),(.str "havers" 1087),(.str "house" 1088),(.str "made" 1089),(.str "most" 1090),(.str "private" 1091),(.str "shape" 1092),(.str "sheets" 1093)] 0, #[]⟩
def PY (P:Params):Obj:=dO 4 [e P bF 841 (s WE 832),e P cF 845 (.int (241) 844),e P tK 854 (.ref 514),e P FQ 862 (.ref 521),e P 1819504743 872 (.ref 528),e P GQ 880 (.ref 535),e P HQ 889 (.ref 542),e P IQ 897 (.ref 549),e P 8020589 911 (.ref 557),e P 1969711725 921 (.ref 564),e P XM 932 (.ref 571),e P 1700947571 942 (.ref 578),e P 440056574840 953 (.ref 585),e P 1701671015 963 (.ref 592),e P JQ 970 (.ref 599),e P KQ 977 (.ref 606),e P LQ 985 (.ref 613),e P 34449212995692148 991 (.ref 618),e P 140789800901245672938236525 998 (.ref 625),e P 478762002804 1010 (.ref 632),e P 32780192883044463 1017 (.ref 639),e P 8032497800187927056105972590964 1027 (.ref 646),e P 2078108419592612597865299602467188 1038 (.ref 653),e P 123855394913203706996877684 1047 (.ref 660),e P 549683601607383713673319 1058 (.ref 667),e P 2165647757612066301551 1067 (.ref 674),e P 135892596177744215321962093 1077 (.ref 681),e P 530830455795135452374637 1085 (.ref 688),e P dF 1094 (.ref 689),e P uK 1096 (.ref 692),e P qI 1098 (.ref 693),e P z1 1099 .none]
def QY:Obj:=⟨(.type "type"),none,.cls {name:=(Str.ofString "Rooms"),bases:=[(.type "object")],mro:=[.ref 691,(.type "object")],ns:=690,qualname:=(Str.ofString "Rooms"),hasDict:=true,slotNames:=[],subclasses:=[],abstract:=false,collection:=none,hasDel:=false}, #[none,none,(some (s 500069068883 834)),(some (s 500069068883 842)),(some (.builtin "object.__new__")),(some (.bool true))]⟩
def RY:Obj:=⟨(.type "getset_descriptor"),none,.fields ⟨[s uK 1095,.ref 691,(.builtin "function.__dict__"),(.builtin "function.__dict__#set")]⟩, #[]⟩
def SY:Obj:=⟨(.type "getset_descriptor"),none,.fields ⟨[s qI 1097,.ref 691,(.builtin "ExceptionGroup.__weakref__"),.none]⟩, #[]⟩
def TY:Obj:=tO [s 8462094853666339174 1109,s 495640408177 1110,s 7525350520412074085 1111]
def UY:Obj:=cO [s CU 1106,s CU 1107,s z2 1108,i 372,i 1,i 0,i 0,i 3,.ref 696,(.bool true),i 181,.ref 697,.none,.ref 698,.ref 699,.ref 700,i 1112,i 372,s z2 1113]
def VY:Obj:=fO "power_of_two" "power_of_two" (qC 35) (s WG 1102) (.ref 701)
def WY:Obj:=tO [s 128013219358317 1118,s 7299687 1119,s 478526206824 1120]
def XY:Obj:=cO [s DU 1115,s DU 1116,s z2 1117,i 377,i 3,i 0,i 0,i 3,.ref 703,(.bool true),i 181,.ref 704,.none,.ref 705,.ref 706,.ref 707,i 1121,i 377,s z2 1122]
def YY:Obj:=fO "check_measures" "check_measures" (qC 36) (s WG 1102) (.ref 708)
def ZY:Obj:=tO [s kD 1139,s 128013219358317 1140,s 7299687 1141,s 478526206824 1142]
def aZ:Obj:=cO [s tK 1136,s 1954753563970360692704735932868948 1137,s z2 1138,i 386,i 4,i 0,i 0,i 3,.ref 717,(.bool true),i 181,.ref 718,.none,.ref 719,.ref 720,.ref 721,i 1143,i 386,s z2 1144]
def bZ:Obj:=fO "__init__" "Shape.__init__" (dC (qC 37) 0) (s WG 1102) (.ref 722)
def cZ:Obj:=tO [s kD 1149]
def dZ:Obj:=cO [s 483958001635892750870900 1146,s 136222067239398530400517607478345754964 1147,s z2 1148,i 395,i 1,i 0,i 0,i 3,.ref 724,(.bool true),i 181,.ref 725,.none,.ref 726,.ref 727,.ref 728,i 1150,i 395,s z2 1151]
def eZ:Obj:=fO "sheet_size" "Shape.sheet_size" (dC (qC 37) 1) (s WG 1102) (.ref 729)
def fZ:Obj:=tO [s kD 1156]
def gZ:Obj:=cO [s 554573001519589315076721 1153,s 156098422687084996958981798045893683540 1154,s z2 1155,i 398,i 1,i 0,i 0,i 3,.ref 731,(.bool true),i 181,.ref 732,.none,.ref 733,.ref 734,.ref 735,i 1157,i 398,s z2 1158]
def iZ:Obj:=fO "page_count" "Shape.page_count" (dC (qC 37) 2) (s WG 1102) (.ref 736)
def jZ:Obj:=tO [s kD 1163,s mG 1164]
def kZ:Obj:=cO [s 7379256228535624297 1160,s 2077075975069028078541421527853396 1161,s z2 1162,i 401,i 2,i 0,i 0,i 3,.ref 738,(.bool true),i 181,.ref 739,.none,.ref 740,.ref 741,.ref 742,i 1165,i 401,s z2 1166]
def lZ:Obj:=fO "has_page" "Shape.has_page" (dC (qC 37) 3) (s WG 1102) (.ref 743)
def mZ:Obj:=tO [s kD 1171,s mG 1172]
def nZ:Obj:=cO [s 483606936193276347574628 1168,s 136123251102114162142305122687958280532 1169,s z2 1170,i 404,i 2,i 0,i 0,i 3,.ref 745,(.bool true),i 181,.ref 746,.none,.ref 747,.ref 748,.ref 749,i 1173,i 404,s z2 1174]
def oZ:Obj:=fO "check_page" "Shape.check_page" (dC (qC 37) 4) (s WG 1102) (.ref 750)
def pZ:Obj:=tO [s kD 1179,s xM 1180]
def qZ:Obj:=cO [s 140785079470369141693899369 1176,s 39627476965130008305525577047426929420628 1177,s z2 1178,i 408,i 2,i 0,i 0,i 3,.ref 752,(.bool true),i 181,.ref 753,.none,.ref 754,.ref 755,.ref 756,i 1181,i 408,s z2 1182]
def rZ:Obj:=fO "has_address" "Shape.has_address" (dC (qC 37) 5) (s WG 1102) (.ref 757)
def sZ:Obj:=tO [s kD 1187,s xM 1188]
def tZ:Obj:=cO [s 111490731565681 1184,s 31381851070904111347232041300 1185,s z2 1186,i 411,i 2,i 0,i 0,i 3,.ref 759,(.bool true),i 181,.ref 760,.none,.ref 761,.ref 762,.ref 763,i 1189,i 411,s z2 1190]
def uZ:Obj:=fO "parted" "Shape.parted" (dC (qC 37) 6) (s WG 1102) (.ref 764)
def vZ:Obj:=tO [s kD 1195,s mG 1196,s 7958627 1197]
def wZ:Obj:=cO [s xM 1192,s 9226490968170112016115440970068 1193,s z2 1194,i 416,i 3,i 0,i 0,i 3,.ref 766,(.bool true),i 181,.ref 767,.none,.ref 768,.ref 769,.ref 770,i 1198,i 416,s z2 1199]
def xZ:Obj:=fO "address" "Shape.address" (dC (qC 37) 7) (s WG 1102) (.ref 771)
def yZ:Obj:=tO [s kD 1204,s mG 1205]
def zZ:Obj:=cO [s 500118746484 1201,s 140770912519198489320778068 1202,s z2 1203,i 422,i 2,i 0,i 0,i 3,.ref 773,(.bool true),i 181,.ref 774,.none,.ref 775,.ref 776,.ref 777,i 1206,i 422,s z2 1207]
def AZ:Obj:=fO "steps" "Shape.steps" (dC (qC 37) 8) (s WG 1102) (.ref 778)
def BZ:Obj:=tO [s kD 1212,s 500118746484 1213]
def CZ:Obj:=cO [s 29115481938485873 1209,s 8195279600554836563607700007252 1210,s z2 1211,i 425,i 2,i 0,i 0,i 3,.ref 780,(.bool true),i 181,.ref 781,.none,.ref 782,.ref 783,.ref 784,i 1214,i 425,s z2 1215]
def DZ:Obj:=fO "page_of" "Shape.page_of" (dC (qC 37) 9) (s WG 1102) (.ref 785)
def EZ:Obj:=tO [s kD 1220,s JG 1221,s nG 1222]
def FZ:Obj:=cO [s 1953852007 1217,s 549960448218510519331156 1218,s z2 1219,i 428,i 3,i 0,i 0,i 3,.ref 787,(.bool true),i 181,.ref 788,.none,.ref 789,.ref 790,.ref 791,i 1223,i 428,s z2 1224]
def GZ:Obj:=fO "fits" "Shape.fits" (dC (qC 37) 10) (s WG 1102) (.ref 792)
def HZ:Obj:=⟨(.type "tuple"),none,.seq #[(.str "boxes" 1226),(.str "fan" 1227),(.str "grain" 1228),(.str "levels" 1229),(.str "pages" 1230),(.str "ways" 1231)] 0, #[]⟩
def IZ (P:Params):Obj:=dO 4 [e P bF 1131 (s WG 1102),e P cF 1135 (.int (384) 1134),e P tK 1145 (.ref 723),e P 483958001635892750870900 1152 (.ref 730),e P 554573001519589315076721 1159 (.ref 737),e P 7379256228535624297 1167 (.ref 744),e P 483606936193276347574628 1175 (.ref 751),e P 140785079470369141693899369 1183 (.ref 758),e P 111490731565681 1191 (.ref 765),e P xM 1200 (.ref 772),e P 500118746484 1208 (.ref 779),e P 29115481938485873 1216 (.ref 786),e P 1953852007 1225 (.ref 793),e P dF 1232 (.ref 794),e P uK 1234 (.ref 797),e P qI 1236 (.ref 798),e P z1 1237 .none]
def JZ:Obj:=⟨(.type "type"),none,.cls {name:=(Str.ofString "Shape"),bases:=[(.type "object")],mro:=[.ref 796,(.type "object")],ns:=795,qualname:=(Str.ofString "Shape"),hasDict:=true,slotNames:=[],subclasses:=[],abstract:=false,collection:=none,hasDel:=false}, #[none,none,(some (s 439988939092 1124)),(some (s 439988939092 1132)),(some (.builtin "object.__new__")),(some (.bool true))]⟩
def KZ:Obj:=⟨(.type "getset_descriptor"),none,.fields ⟨[s uK 1233,.ref 796,(.builtin "function.__dict__"),(.builtin "function.__dict__#set")]⟩, #[]⟩
def LZ:Obj:=⟨(.type "getset_descriptor"),none,.fields ⟨[s qI 1235,.ref 796,(.builtin "ExceptionGroup.__weakref__"),.none]⟩, #[]⟩
def MZ:Obj:=tO [s 141979911977246466280418656 1245,s 119161592376672 1246]
def NZ:Obj:=cO [s EU 1242,s EU 1243,s z2 1244,i 431,i 2,i 0,i 0,i 3,.ref 801,(.bool true),i 181,.ref 802,.none,.ref 803,.ref 804,.ref 805,i 1247,i 431,s z2 1248]
def OZ:Obj:=fO "_law_cell_at" "_law_cell_at" (qC 39) (s z0 1240) (.ref 806)
def PZ:Obj:=tO [s 2018578202597599112544 1253,s 483533148109722095873376 1254,s 2258528875839108574560 1255,s 483718193700061355076960 1256]
def QZ:Obj:=cO [s 2166583389145247411552 1250,s 2166583389145247411552 1251,s z2 1252,i 435,i 3,i 0,i 0,i 3,.ref 808,(.bool true),i 181,.ref 809,.none,.ref 810,.ref 811,.ref 812,i 1257,i 435,s z2 1258]
def RZ:Obj:=fO "_law_part" "_law_part" (qC 40) (s z0 1240) (.ref 813)
def SZ:Obj:=tO [s 479015137796973828140384 1263,s 7383200104131489120 1264]
def TZ:Obj:=cO [s FU 1260,s FU 1261,s z2 1262,i 438,i 2,i 0,i 0,i 3,.ref 815,(.bool true),i 181,.ref 816,.none,.ref 817,.ref 818,.ref 819,i 1265,i 438,s z2 1266]
def UZ:Obj:=fO "_law_whole" "_law_whole" (qC 41) (s z0 1240) (.ref 820)
def VZ:Obj:=tO [s 2000634754473945886048 1271,s 1889089594505186930016 1272]
def WZ:Obj:=cO [s 8819856081844071776 1268,s 8819856081844071776 1269,s z2 1270,i 440,i 2,i 0,i 0,i 3,.ref 822,(.bool true),i 181,.ref 823,.none,.ref 824,.ref 825,.ref 826,i 1273,i 440,s z2 1274]
def XZ:Obj:=fO "_law_key" "_law_key" (qC 42) (s z0 1240) (.ref 827)
def YZ:Obj:=tO [s 2148500875890424704352 1279,s 140789800901245673238850912 1280,s 2166440394359520259424 1281,s 1889597928417521724768 1282,s 8116987160646205798091361250656 1283,s 2257597481738242780512 1284]
def ZZ:Obj:=cO [s GU 1276,s GU 1277,s z2 1278,i 444,i 2,i 0,i 0,i 3,.ref 829,(.bool true),i 181,.ref 830,.none,.ref 831,.ref 832,.ref 833,i 1285,i 444,s z2 1286]
def i0:Obj:=fO "_law_folded" "_law_folded" (qC 43) (s z0 1240) (.ref 834)
def r0:Obj:=cO [s HU 1288,s HU 1289,s z2 1290,i 454,i 6,i 0,i 0,i 3,.ref 836,(.bool true),i 181,.ref 837,.none,.none,.none,.ref 838,i 1291,i 454,s z2 1292]
def M0:Obj:=fO "_law_access" "_law_access" (qC 44) (s z0 1240) (.ref 839)
def N0:Obj:=tO [s 549831755963574708759904 1297,s 2148500875890424704352 1298,s 549795146767352790674784 1299,s 1890460943890256129376 1300,s 2000634754473945886048 1301,s 7383200104131489120 1302,s 1889089594505186930016 1303]
def O0:Obj:=cO [s 2054967305178938764640 1294,s 2054967305178938764640 1295,s z2 1296,i 466,i 4,i 0,i 0,i 3,.ref 841,(.bool true),i 181,.ref 842,.none,.ref 843,.ref 844,.ref 845,i 1304,i 466,s z2 1305]
def P0:Obj:=fO "_law_seen" "_law_seen" (qC 45) (s z0 1240) (.ref 846)
def Q0:Obj:=tO [s 549831755963574708759904 1310,s 2148500875890424704352 1311,s 140789800901245673238850912 1312,s 549795146767352790674784 1313,s 2018578202597599112544 1314,s 2077948713125226709713036968619360 1315,s 498015068038804250193248 1316,s 8818743376076762464 1317,s 2000634754473945886048 1318,s 1889089594505186930016 1319,s 8116987160646205798091361250656 1320,s 8750603341968600416 1321,s 483865979046955610959200 1322]
def T0:Obj:=cO [s 2055908558600570826080 1307,s 2055908558600570826080 1308,s z2 1309,i 474,i 7,i 0,i 0,i 3,.ref 848,(.bool true),i 181,.ref 849,.none,.ref 850,.ref 851,.ref 852,i 1323,i 474,s z2 1324]
def U0:Obj:=fO "_law_turn" "_law_turn" (qC 46) (s z0 1240) (.ref 853)
def V0:Obj:=cO [s 7889517 1326,s 7889517 1327,s z2 1328,i 487,i 1,i 0,i 0,i 3,.ref 855,(.bool true),i 181,.ref 856,.none,.none,.none,.ref 857,i 1329,i 487,s z2 1330]
def W0:Obj:=fO "law" "law" (qC 47) (s z0 1240) (.ref 858)
def Kf:Params->W.Frag:=λP=>(nat_lit 2,o2)::(nat_lit 3,o3 P)::(nat_lit 15,lC)::(nat_lit 17,ca)::(nat_lit 18,lC)::(nat_lit 20,da)::(nat_lit 21,ga)::(nat_lit 22,ja)::(nat_lit 29,vF)::(nat_lit 30,ma P)::(nat_lit 31,qa)::(nat_lit 32,ua)::(nat_lit 35,HF)::(nat_lit 42,vF)::(nat_lit 43,va P)::(nat_lit 44,xa)::(nat_lit 47,HF)::(nat_lit 54,vF)::(nat_lit 55,ya P)::(nat_lit 56,za)::(nat_lit 59,HF)::(nat_lit 66,vF)::(nat_lit 67,Na P)::(nat_lit 68,Oa)::(nat_lit 71,HF)::(nat_lit 78,vF)::(nat_lit 79,Pa P)::(nat_lit 80,Qa)::(nat_lit 83,HF)::(nat_lit 90,vF)::(nat_lit 91,Ra P)::(nat_lit 92,Sa)::(nat_lit 95,HF)::(nat_lit 102,vF)::(nat_lit 103,XO P)::(nat_lit 104,YO)::(nat_lit 107,HF)::(nat_lit 114,vF)::(nat_lit 115,ZO P)::(nat_lit 116,aP)::(nat_lit 119,HF)::(nat_lit 126,vF)::(nat_lit 127,bP P)::(nat_lit 128,cP)::(nat_lit 131,HF)::(nat_lit 138,vF)::(nat_lit 139,dP P)::(nat_lit 140,eP)::(nat_lit 143,HF)::(nat_lit 150,vF)::(nat_lit 151,fP P)::(nat_lit 152,gP)::(nat_lit 155,lC)::(nat_lit 157,iP)::(nat_lit 158,lC)::(nat_lit 160,jP)::(nat_lit 161,kP)::(nat_lit 162,lC)::(nat_lit 164,lP)::(nat_lit 165,lC)::(nat_lit 167,mP)::(nat_lit 168,nP)::(nat_lit 169,lC)::(nat_lit 171,oP)::(nat_lit 172,lC)::(nat_lit 174,pP)::(nat_lit 175,qP)::(nat_lit 176,lC)::(nat_lit 178,rP)::(nat_lit 179,lC)::(nat_lit 181,sP)::(nat_lit 182,tP)::(nat_lit 183,lC)::(nat_lit 185,uP)::(nat_lit 186,lC)::(nat_lit 188,vP)::(nat_lit 189,wP)::(nat_lit 190,lC)::(nat_lit 192,xP)::(nat_lit 193,lC)::(nat_lit 195,yP)::(nat_lit 196,zP)::(nat_lit 197,lC)::(nat_lit 199,BP)::(nat_lit 200,lC)::(nat_lit 202,CP)::(nat_lit 203,DP)::(nat_lit 204,lC)::(nat_lit 206,IU)::(nat_lit 207,lC)::(nat_lit 209,JU)::(nat_lit 210,KU)::(nat_lit 218,lC)::(nat_lit 220,LU)::(nat_lit 221,lC)::(nat_lit 223,MU)::(nat_lit 224,NU)::(nat_lit 225,OU)::(nat_lit 226,lC)::(nat_lit 228,PU)::(nat_lit 229,lC)::(nat_lit 231,QU)::(nat_lit 232,RU)::(nat_lit 233,lC)::(nat_lit 235,SU)::(nat_lit 236,lC)::(nat_lit 238,TU)::(nat_lit 239,UU)::(nat_lit 240,lC)::(nat_lit 242,VU)::(nat_lit 243,lC)::(nat_lit 245,WU)::(nat_lit 246,XU)::(nat_lit 247,lC)::(nat_lit 249,YU)::(nat_lit 250,lC)::(nat_lit 252,ZU)::(nat_lit 253,aV)::(nat_lit 254,lC)::(nat_lit 256,cV)::(nat_lit 257,lC)::(nat_lit 259,eV)::(nat_lit 260,fV)::(nat_lit 261,lC)::(nat_lit 263,hV)::(nat_lit 264,lC)::(nat_lit 266,iV)::(nat_lit 267,jV)::(nat_lit 268,lC)::(nat_lit 270,lV)::(nat_lit 271,lC)::(nat_lit 273,mV)::(nat_lit 274,nV)::(nat_lit 275,lC)::(nat_lit 277,oV)::(nat_lit 278,lC)::(nat_lit 280,pV)::(nat_lit 281,qV)::(nat_lit 282,lC)::(nat_lit 284,rV)::(nat_lit 285,lC)::(nat_lit 287,sV)::(nat_lit 288,tV)::(nat_lit 289,lC)::(nat_lit 291,uV)::(nat_lit 292,lC)::(nat_lit 294,vV)::(nat_lit 295,wV)::(nat_lit 296,lC)::(nat_lit 298,xV)::(nat_lit 299,lC)::(nat_lit 301,yV)::(nat_lit 302,zV)::(nat_lit 303,lC)::(nat_lit 305,AV)::(nat_lit 306,lC)::(nat_lit 308,BV)::(nat_lit 309,CV)::(nat_lit 310,lC)::(nat_lit 313,DV)::(nat_lit 314,EV)::(nat_lit 315,lC)::(nat_lit 317,FV)::(nat_lit 318,lC)::(nat_lit 320,GV)::(nat_lit 321,HV)::(nat_lit 322,lC)::(nat_lit 325,IV)::(nat_lit 326,JV)::(nat_lit 327,LV)::(nat_lit 328,MV P)::(nat_lit 329,NV)::(nat_lit 330,OV)::(nat_lit 331,PV)::(nat_lit 334,lC)::(nat_lit 336,QV)::(nat_lit 337,lC)::(nat_lit 339,RV)::(nat_lit 340,SV)::(nat_lit 348,lC)::(nat_lit 350,TV)::(nat_lit 351,lC)::(nat_lit 353,UV)::(nat_lit 354,VV)::(nat_lit 355,lC)::(nat_lit 357,WV)::(nat_lit 358,lC)::(nat_lit 360,XV)::(nat_lit 361,YV)::(nat_lit 362,lC)::(nat_lit 364,ZV)::(nat_lit 365,lC)::(nat_lit 367,aW)::(nat_lit 368,bW)::(nat_lit 369,lC)::(nat_lit 371,cW)::(nat_lit 372,lC)::(nat_lit 374,dW)::(nat_lit 375,eW)::(nat_lit 376,lC)::(nat_lit 378,fW)::(nat_lit 379,lC)::(nat_lit 381,gW)::(nat_lit 382,hW)::(nat_lit 383,lC)::(nat_lit 385,iW)::(nat_lit 386,lC)::(nat_lit 388,jW)::(nat_lit 389,kW)::(nat_lit 390,lW)::(nat_lit 391,lC)::(nat_lit 393,mW)::(nat_lit 394,lC)::(nat_lit 396,nW)::(nat_lit 397,oW)::(nat_lit 398,lC)::(nat_lit 400,pW)::(nat_lit 401,lC)::(nat_lit 403,qW)::(nat_lit 404,rW)::(nat_lit 405,lC)::(nat_lit 407,sW)::(nat_lit 408,lC)::(nat_lit 410,tW)::(nat_lit 411,uW)::(nat_lit 412,lC)::(nat_lit 414,vW)::(nat_lit 415,lC)::(nat_lit 417,wW)::(nat_lit 418,xW)::(nat_lit 419,lC)::(nat_lit 421,yW)::(nat_lit 422,lC)::(nat_lit 424,zW)::(nat_lit 425,AW)::(nat_lit 426,lC)::(nat_lit 428,BW)::(nat_lit 429,lC)::(nat_lit 431,CW)::(nat_lit 432,DW)::(nat_lit 433,lC)::(nat_lit 435,EW)::(nat_lit 436,lC)::(nat_lit 438,FW)::(nat_lit 439,GW)::(nat_lit 440,lC)::(nat_lit 442,HW)::(nat_lit 443,lC)::(nat_lit 445,IW)::(nat_lit 446,JW)::(nat_lit 447,lC)::(nat_lit 449,KW)::(nat_lit 450,lC)::(nat_lit 452,LW)::(nat_lit 453,MW)::(nat_lit 454,lC)::(nat_lit 456,NW)::(nat_lit 457,lC)::(nat_lit 459,OW)::(nat_lit 460,QW)::(nat_lit 461,lC)::(nat_lit 464,RW)::(nat_lit 465,SW)::(nat_lit 466,lC)::(nat_lit 468,TW)::(nat_lit 469,lC)::(nat_lit 471,UW)::(nat_lit 472,VW)::(nat_lit 473,lC)::(nat_lit 475,WW)::(nat_lit 476,lC)::(nat_lit 478,YW)::(nat_lit 479,ZW)::(nat_lit 480,lC)::(nat_lit 482,aX)::(nat_lit 483,lC)::(nat_lit 485,bX)::(nat_lit 486,cX)::(nat_lit 487,lC)::(nat_lit 489,dX)::(nat_lit 490,lC)::(nat_lit 492,eX)::(nat_lit 493,fX)::(nat_lit 494,gX)::(nat_lit 495,hX P)::(nat_lit 496,iX)::(nat_lit 497,jX)::(nat_lit 498,kX)::(nat_lit 508,lC)::(nat_lit 510,lX)::(nat_lit 511,lC)::(nat_lit 513,mX)::(nat_lit 514,nX)::(nat_lit 515,lC)::(nat_lit 517,oX)::(nat_lit 518,lC)::(nat_lit 520,pX)::(nat_lit 521,qX)::(nat_lit 522,lC)::(nat_lit 524,rX)::(nat_lit 525,lC)::(nat_lit 527,sX)::(nat_lit 528,tX)::(nat_lit 529,lC)::(nat_lit 531,uX)::(nat_lit 532,lC)::(nat_lit 534,vX)::(nat_lit 535,wX)::(nat_lit 536,lC)::(nat_lit 538,xX)::(nat_lit 539,lC)::(nat_lit 541,yX)::(nat_lit 542,zX)::(nat_lit 543,lC)::(nat_lit 545,AX)::(nat_lit 546,lC)::(nat_lit 548,BX)::(nat_lit 549,DX)::(nat_lit 550,EX)::(nat_lit 551,lC)::(nat_lit 553,FX)::(nat_lit 554,lC)::(nat_lit 556,GX)::(nat_lit 557,HX)::(nat_lit 558,lC)::(nat_lit 560,IX)::(nat_lit 561,lC)::(nat_lit 563,JX)::(nat_lit 564,LX)::(nat_lit 565,lC)::(nat_lit 567,MX)::(nat_lit 568,lC)::(nat_lit 570,NX)::(nat_lit 571,OX)::(nat_lit 572,lC)::(nat_lit 574,PX)::(nat_lit 575,lC)::(nat_lit 577,QX)::(nat_lit 578,RX)::(nat_lit 579,lC)::(nat_lit 581,SX)::(nat_lit 582,lC)::(nat_lit 584,TX)::(nat_lit 585,UX)::(nat_lit 586,lC)::(nat_lit 588,VX)::(nat_lit 589,lC)::(nat_lit 591,WX)::(nat_lit 592,XX)::(nat_lit 593,lC)::(nat_lit 595,YX)::(nat_lit 596,lC)::(nat_lit 598,ZX)::(nat_lit 599,aY)::(nat_lit 600,lC)::(nat_lit 602,bY)::(nat_lit 603,lC)::(nat_lit 605,cY)::(nat_lit 606,dY)::(nat_lit 607,lC)::(nat_lit 609,eY)::(nat_lit 610,lC)::(nat_lit 612,fY)::(nat_lit 613,gY)::(nat_lit 614,lC)::(nat_lit 617,iY)::(nat_lit 618,jY)::(nat_lit 619,lC)::(nat_lit 621,kY)::(nat_lit 622,lC)::(nat_lit 624,lY)::(nat_lit 625,mY)::(nat_lit 626,lC)::(nat_lit 628,nY)::(nat_lit 629,lC)::(nat_lit 631,oY)::(nat_lit 632,pY)::(nat_lit 633,lC)::(nat_lit 635,qY)::(nat_lit 636,lC)::(nat_lit 638,rY)::(nat_lit 639,sY)::(nat_lit 640,lC)::(nat_lit 642,tY)::(nat_lit 643,lC)::(nat_lit 645,uY)::(nat_lit 646,vY)::(nat_lit 647,lC)::(nat_lit 649,wY)::(nat_lit 650,lC)::(nat_lit 652,xY)::(nat_lit 653,yY)::(nat_lit 654,lC)::(nat_lit 656,zY)::(nat_lit 657,lC)::(nat_lit 659,AY)::(nat_lit 660,BY)::(nat_lit 661,lC)::(nat_lit 663,CY)::(nat_lit 664,lC)::(nat_lit 666,DY)::(nat_lit 667,EY)::(nat_lit 668,lC)::(nat_lit 670,FY)::(nat_lit 671,lC)::(nat_lit 673,GY)::(nat_lit 674,HY)::(nat_lit 675,lC)::(nat_lit 677,IY)::(nat_lit 678,lC)::(nat_lit 680,JY)::(nat_lit 681,KY)::(nat_lit 682,lC)::(nat_lit 684,LY)::(nat_lit 685,lC)::(nat_lit 687,MY)::(nat_lit 688,NY)::(nat_lit 689,OY)::(nat_lit 690,PY P)::(nat_lit 691,QY)::(nat_lit 692,RY)::(nat_lit 693,SY)::(nat_lit 696,lC)::(nat_lit 698,TY)::(nat_lit 699,lC)::(nat_lit 701,UY)::(nat_lit 702,VY)::(nat_lit 703,lC)::(nat_lit 705,WY)::(nat_lit 706,lC)::(nat_lit 708,XY)::(nat_lit 709,YY)::(nat_lit 717,lC)::(nat_lit 719,ZY)::(nat_lit 720,lC)::(nat_lit 722,aZ)::(nat_lit 723,bZ)::(nat_lit 724,lC)::(nat_lit 726,cZ)::(nat_lit 727,lC)::(nat_lit 729,dZ)::(nat_lit 730,eZ)::(nat_lit 731,lC)::(nat_lit 733,fZ)::(nat_lit 734,lC)::(nat_lit 736,gZ)::(nat_lit 737,iZ)::(nat_lit 738,lC)::(nat_lit 740,jZ)::(nat_lit 741,lC)::(nat_lit 743,kZ)::(nat_lit 744,lZ)::(nat_lit 745,lC)::(nat_lit 747,mZ)::(nat_lit 748,lC)::(nat_lit 750,nZ)::(nat_lit 751,oZ)::(nat_lit 752,lC)::(nat_lit 754,pZ)::(nat_lit 755,lC)::(nat_lit 757,qZ)::(nat_lit 758,rZ)::(nat_lit 759,lC)::(nat_lit 761,sZ)::(nat_lit 762,lC)::(nat_lit 764,tZ)::(nat_lit 765,uZ)::(nat_lit 766,lC)::(nat_lit 768,vZ)::(nat_lit 769,lC)::(nat_lit 771,wZ)::(nat_lit 772,xZ)::(nat_lit 773,lC)::(nat_lit 775,yZ)::(nat_lit 776,lC)::(nat_lit 778,zZ)::(nat_lit 779,AZ)::(nat_lit 780,lC)::(nat_lit 782,BZ)::(nat_lit 783,lC)::(nat_lit 785,CZ)::(nat_lit 786,DZ)::(nat_lit 787,lC)::(nat_lit 789,EZ)::(nat_lit 790,lC)::(nat_lit 792,FZ)::(nat_lit 793,GZ)::(nat_lit 794,HZ)::(nat_lit 795,IZ P)::(nat_lit 796,JZ)::(nat_lit 797,KZ)::(nat_lit 798,LZ)::(nat_lit 801,lC)::(nat_lit 803,MZ)::(nat_lit 804,lC)::(nat_lit 806,NZ)::(nat_lit 807,OZ)::(nat_lit 808,lC)::(nat_lit 810,PZ)::(nat_lit 811,lC)::(nat_lit 813,QZ)::(nat_lit 814,RZ)::(nat_lit 815,lC)::(nat_lit 817,SZ)::(nat_lit 818,lC)::(nat_lit 820,TZ)::(nat_lit 821,UZ)::(nat_lit 822,lC)::(nat_lit 824,VZ)::(nat_lit 825,lC)::(nat_lit 827,WZ)::(nat_lit 828,XZ)::(nat_lit 829,lC)::(nat_lit 831,YZ)::(nat_lit 832,lC)::(nat_lit 834,ZZ)::(nat_lit 835,i0)::(nat_lit 836,lC)::(nat_lit 839,r0)::(nat_lit 840,M0)::(nat_lit 841,lC)::(nat_lit 843,N0)::(nat_lit 844,lC)::(nat_lit 846,O0)::(nat_lit 847,P0)::(nat_lit 848,lC)::(nat_lit 850,Q0)::(nat_lit 851,lC)::(nat_lit 853,T0)::(nat_lit 854,U0)::(nat_lit 855,lC)::(nat_lit 858,V0)::(nat_lit 859,W0)::[]
def Kc (P:Params):List (Option Obj):=(Kf P).map λp=>some p.2
def uI:List Addr:=2::3::15::17::18::20::21::22::29::30::31::32::35::42::43::44::47::54::55::56::59::66::67::68::71::78::79::80::83::90::91::92::95::102::103::104::107::114::115::116::119::126::127::128::131::138::139::140::143::150::151::152::155::157::158::160::161::162::164::165::167::168::169::171::172::174::175::176::178::179::181::182::183::185::186::188::189::190::192::193::195::196::197::199::200::202::203::204::206::207::209::210::218::220::221::223::224::225::226::228::229::231::232::233::235::236::238::239::240::242::243::245::246::247::249::250::252::253::254::256::257::259::260::261::263::264::266::267::268::270::271::273::274::275::277::278::280::281::282::284::285::287::288::289::291::292::294::295::296::298::299::301::302::303::305::306::308::309::310::313::314::315::317::318::320::321::322::325::326::327::328::329::330::331::334::336::337::339::340::348::350::351::353::354::355::357::358::360::361::362::364::365::367::368::369::371::372::374::375::376::378::379::381::382::383::385::386::388::389::390::391::393::394::396::397::398::400::401::403::404::405::407::408::410::411::412::414::415::417::418::419::421::422::424::425::426::428::429::431::432::433::435::436::438::439::440::442::443::445::446::447::449::450::452::453::454::456::457::459::460::461::464::465::466::468::469::471::472::473::475::476::478::479::480::482::483::485::486::487::489::490::492::493::494::495::496::497::498::508::510::511::513::514::515::517::518::520::521::522::524::525::527::528::529::531::532::534::535::536::538::539::541::542::543::545::546::548::549::550::551::553::554::556::557::558::560::561::563::564::565::567::568::570::571::572::574::575::577::578::579::581::582::584::585::586::588::589::591::592::593::595::596::598::599::600::602::603::605::606::607::609::610::612::613::614::617::618::619::621::622::624::625::626::628::629::631::632::633::635::636::638::639::640::642::643::645::646::647::649::650::652::653::654::656::657::659::660::661::663::664::666::667::668::670::671::673::674::675::677::678::680::681::682::684::685::687::688::689::690::691::692::693::696::698::699::701::702::703::705::706::708::709::717::719::720::722::723::724::726::727::729::730::731::733::734::736::737::738::740::741::743::744::745::747::748::750::751::752::754::755::757::758::759::761::762::764::765::766::768::769::771::772::773::775::776::778::779::780::782::783::785::786::787::789::790::792::793::794::795::796::797::798::801::803::804::806::807::808::810::811::813::814::815::817::818::820::821::822::824::825::827::828::829::831::832::834::835::836::839::840::841::843::844::846::847::848::850::851::853::854::855::858::859::[]
def _root_.PySem.W.Fast.tw2978598463251682248:Params->W.Frag:=Kf
theorem _root_.PySem.W.Fast.te2978598463251682248:@Eq (Params->W.Frag) Kf _root_.PySem.W.Fast.tw2978598463251682248:=rfl
def _root_.PySem.W.Fast.tw178197174607172993:List Addr:=uI
theorem _root_.PySem.W.Fast.te178197174607172993:@Eq (List Addr) uI _root_.PySem.W.Fast.tw178197174607172993:=rfl
theorem FP (P:Params):uI=(Kf P).map (·.1):=by kernel_rfl
theorem GP (P:Params):Kc P=(Kf P).map λp=>some p.2:=rfl
def vw:Program:=W.view PySem.Challenge.pw_frameland_k55_folded_rooms [0,1,2,4,5,6,7,8,9,10,11,12,13,14,16,17,19,20,21,22,23,24,25,26,28,29,30,32,34,35,36,37,39,40,41,42,43,44,45,46,47]
def AF:Obj:=⟨.none,none,.fields ⟨[]⟩, #[]⟩
def X0:Obj:=cO [s 4568459227289382461 182,s 4568459227289382461 183,s z2 184,i 1,i 0,i 0,i 0,i 0,.ref 11,(.bool false),i 181,.ref 12,.none,.none,.none,.none,i 185,i 1,s z2 186]
def Y0:Obj:=⟨(.type "frame"),none,.plain, #[(some (.ref 13)),(some (.ref 3)),(some (.ref 3)),none,(some (s 6944673128113922144 164)),none,(some (.ref 0))]⟩
section
variable (P:Params)
def ni:W.BT:=.node (W.boot_o_7 P) .nil .nil
def oi (P:Params):W.BT:=.node lC .nil .nil
def pi:W.BT:=.node (W.boot_o_9 P) .nil .nil
def qi (P:Params):W.BT:=.node X0 .nil .nil
def si:W.BT:=.node (W.boot_o_8 P) .nil .nil
def ui (P:Params):W.BT:=.node AF .nil .nil
def vi:W.BT:=.node (W.boot_o_10 P) .nil .nil
def xi (P:Params):W.BT:=.node Y0 .nil .nil
def yi:W.BT:=.node (W.boot_o_0 P) (.node (W.boot_o_1 P) (.node (W.boot_o_3 P) (ni P) (oi P)) (.node (W.boot_o_5 P) (pi P) (qi P))) (.node (W.boot_o_2 P) (.node (W.boot_o_4 P) (si P) (ui P)) (.node (W.boot_o_6 P) (vi P) (xi P)))
end
def ZM (w:World) (os:OsState):W.SharedT:=⟨yi w.params,15,(W.boot_heap w.params).life, #[],W.boot_drawn,187,os⟩
def _root_.PySem.W.Fast.tw14493010579495800908:World->OsState->W.SharedT:=ZM
theorem _root_.PySem.W.Fast.te14493010579495800908:@Eq (World->OsState->W.SharedT) ZM _root_.PySem.W.Fast.tw14493010579495800908:=rfl
section
variable (P:Params)
def zi:W.BT:=.node (W.boot_o_7 P) .nil .nil
def Ni (P:Params):W.BT:=.node lC .nil .nil
def Oi:W.BT:=.node (W.boot_o_9 P) .nil .nil
def Pi (P:Params):W.BT:=.node X0 .nil .nil
def Qi:W.BT:=.node (W.boot_o_8 P) .nil .nil
def Ri (P:Params):W.BT:=.node AF .nil .nil
def Si:W.BT:=.node (W.boot_o_10 P) .nil .nil
def Ti (P:Params):W.BT:=.node Y0 .nil .nil
def Ui:W.BT:=.node (W.boot_o_0 P) (.node (W.boot_o_1 P) (.node (W.boot_o_3 P) (zi P) (Ni P)) (.node (W.boot_o_5 P) (Oi P) (Pi P))) (.node (W.boot_o_2 P) (.node (W.boot_o_4 P) (Qi P) (Ri P)) (.node (W.boot_o_6 P) (Si P) (Ti P)))
end
def aN (w:World) (os:OsState):W.SharedT:=⟨Ui w.params,15,(W.boot_heap w.params).life, #[],W.boot_drawn,187,os⟩
def _root_.PySem.W.Fast.tw4081698580280887237:World->OsState->W.SharedT:=aN
theorem _root_.PySem.W.Fast.te4081698580280887237:@Eq (World->OsState->W.SharedT) aN _root_.PySem.W.Fast.tw4081698580280887237:=rfl
def yM (P:Params):Obj:=dO 31 [e P 6944663249689206880 165 (s lF 396),e P z1 166 .none,e P 116512114954948911152848992 167 .none,e P 455126385231797511086176 168 (.builtin "__main__.__loader__#opaque"),e P 6944661016558198880 169 .none,e P 500416834696884185539869749159288928 170 (.ref 6),e P 29827167671303893903271485536 171 (.ref 4),e P 6944663245527933024 173 (s z2 172),e P 455125376429887381069920 174 .none,e P z3 193 (.ref 21),e P 1161971283 195 (.int (1) 194),e P 302078645080 197 (.int (2) 196),e P z4 217 (.ref 31),e P z5 233 (.ref 44),e P z6 249 (.ref 56),e P z7 265 (.ref 68),e P z8 281 (.ref 80),e P z9 297 (.ref 92),e P rM 313 (.ref 104),e P sM 329 (.ref 116),e P tM 345 (.ref 128),e P uM 361 (.ref 140),e P vM 377 (.ref 152),e P QM 386 (.ref 161),e P RM 395 (.ref 168),e P 101952521820057743536705614 399 (.int (3) 398),e P SM 406 (.ref 175),e P TM 413 (.ref 182),e P UM 422 (.ref 189),e P VM 432 (.ref 196),e P WM 440 (.ref 203)]
def Vi:Obj:=⟨.none,none,.fields ⟨[i 1,i 0,.ref 20,i 7,i 0,.ref 27,i 9,i 0,.ref 40,i 11,i 0,.ref 52,i 13,i 0,.ref 64,i 15,i 0,.ref 76,i 17,i 0,.ref 88,i 19,i 0,.ref 100,i 21,i 0,.ref 112,i 23,i 0,.ref 124,i 25,i 0,.ref 136,i 27,i 0,.ref 148,i 30,i 0,.ref 160,i 32,i 0,.ref 167,i 36,i 0,.ref 174,i 39,i 0,.ref 181,i 41,i 0,.ref 188,i 46,i 0,.ref 195,i 49,i 0,.ref 202]⟩, #[]⟩
def Wi:Obj:=⟨.none,none,.func {name:=(S z3),qualname:=(S z3),params:=zC (qC 0),body:=.stmts (xC (qC 0)),scope:=cC (qC 0),globals:=0,closure:=[],defaults:=.none,kwdefaults:=.none,doc:=.none,pyModule:=.none,annotations:=none,code:=.none,closureTuple:=.none,builtins:=0}, #[]⟩
def cI:Obj:=⟨(.type "builtin_function_or_method"),none,.fields ⟨[(.builtin "type.__prepare__"),(.type "type")]⟩, #[]⟩
def Xi (P:Params):Obj:=dO 4 [e P bF 207 (s uE 198),e P bI 209 (s z4 208),e P cF 211 (.int (7) 210),e P dF 212 (.ref 29)]
def Yi:Obj:=cO [s z4 202,s z4 203,s z2 204,i 7,i 0,i 0,i 0,i 0,.ref 25,(.bool false),i 181,.ref 26,.none,.none,.none,.none,i 205,i 7,s z2 206]
def Zi:Obj:=⟨(.type "frame"),none,.plain, #[(some (.ref 27)),(some (.ref 3)),(some (.ref 24)),none,(some (s uE 198)),none,(some (.ref 0))]⟩
def aj:Obj:=⟨(.type "super"),none,.fields ⟨[.ref 31,.ref 31,.ref 31]⟩, #[]⟩
def bj:Obj:=⟨(.type "builtin_function_or_method"),none,.fields ⟨[(.builtin "object.__init_subclass__"),.ref 31]⟩, #[]⟩
def cj (P:Params):Obj:=dO 4 [e P bF 225 (s uE 198),e P bI 227 (s z5 226),e P cF 229 (.int (9) 228),e P dF 230 (.ref 42)]
def dj:Obj:=cO [s z5 220,s z5 221,s z2 222,i 9,i 0,i 0,i 0,i 0,.ref 38,(.bool false),i 181,.ref 39,.none,.none,.none,.none,i 223,i 9,s z2 224]
def fj:Obj:=⟨(.type "frame"),none,.plain, #[(some (.ref 40)),(some (.ref 3)),(some (.ref 37)),none,(some (s uE 198)),none,(some (.ref 0))]⟩
def gj:Obj:=⟨(.type "super"),none,.fields ⟨[.ref 44,.ref 44,.ref 44]⟩, #[]⟩
def ij:Obj:=⟨(.type "builtin_function_or_method"),none,.fields ⟨[(.builtin "object.__init_subclass__"),.ref 44]⟩, #[]⟩
def jj (P:Params):Obj:=dO 4 [e P bF 241 (s uE 198),e P bI 243 (s z6 242),e P cF 245 (.int (11) 244),e P dF 246 (.ref 54)]
def kj:Obj:=cO [s z6 236,s z6 237,s z2 238,i 11,i 0,i 0,i 0,i 0,.ref 50,(.bool false),i 181,.ref 51,.none,.none,.none,.none,i 239,i 11,s z2 240]
def lj:Obj:=⟨(.type "frame"),none,.plain, #[(some (.ref 52)),(some (.ref 3)),(some (.ref 49)),none,(some (s uE 198)),none,(some (.ref 0))]⟩
def mj:Obj:=⟨(.type "super"),none,.fields ⟨[.ref 56,.ref 56,.ref 56]⟩, #[]⟩
def nj:Obj:=⟨(.type "builtin_function_or_method"),none,.fields ⟨[(.builtin "object.__init_subclass__"),.ref 56]⟩, #[]⟩
def oj (P:Params):Obj:=dO 4 [e P bF 257 (s uE 198),e P bI 259 (s z7 258),e P cF 261 (.int (13) 260),e P dF 262 (.ref 66)]
def pj:Obj:=cO [s z7 252,s z7 253,s z2 254,i 13,i 0,i 0,i 0,i 0,.ref 62,(.bool false),i 181,.ref 63,.none,.none,.none,.none,i 255,i 13,s z2 256]
def qj:Obj:=⟨(.type "frame"),none,.plain, #[(some (.ref 64)),(some (.ref 3)),(some (.ref 61)),none,(some (s uE 198)),none,(some (.ref 0))]⟩
def rj:Obj:=⟨(.type "super"),none,.fields ⟨[.ref 68,.ref 68,.ref 68]⟩, #[]⟩
def sj:Obj:=⟨(.type "builtin_function_or_method"),none,.fields ⟨[(.builtin "object.__init_subclass__"),.ref 68]⟩, #[]⟩
def tj (P:Params):Obj:=dO 4 [e P bF 273 (s uE 198),e P bI 275 (s z8 274),e P cF 277 (.int (15) 276),e P dF 278 (.ref 78)]
def uj:Obj:=cO [s z8 268,s z8 269,s z2 270,i 15,i 0,i 0,i 0,i 0,.ref 74,(.bool false),i 181,.ref 75,.none,.none,.none,.none,i 271,i 15,s z2 272]
def vj:Obj:=⟨(.type "frame"),none,.plain, #[(some (.ref 76)),(some (.ref 3)),(some (.ref 73)),none,(some (s uE 198)),none,(some (.ref 0))]⟩
def wj:Obj:=⟨(.type "super"),none,.fields ⟨[.ref 80,.ref 80,.ref 80]⟩, #[]⟩
def xj:Obj:=⟨(.type "builtin_function_or_method"),none,.fields ⟨[(.builtin "object.__init_subclass__"),.ref 80]⟩, #[]⟩
def yj (P:Params):Obj:=dO 4 [e P bF 289 (s uE 198),e P bI 291 (s z9 290),e P cF 293 (.int (17) 292),e P dF 294 (.ref 90)]
def zj:Obj:=cO [s z9 284,s z9 285,s z2 286,i 17,i 0,i 0,i 0,i 0,.ref 86,(.bool false),i 181,.ref 87,.none,.none,.none,.none,i 287,i 17,s z2 288]
def Nj:Obj:=⟨(.type "frame"),none,.plain, #[(some (.ref 88)),(some (.ref 3)),(some (.ref 85)),none,(some (s uE 198)),none,(some (.ref 0))]⟩
def Oj:Obj:=⟨(.type "super"),none,.fields ⟨[.ref 92,.ref 92,.ref 92]⟩, #[]⟩
def Pj:Obj:=⟨(.type "builtin_function_or_method"),none,.fields ⟨[(.builtin "object.__init_subclass__"),.ref 92]⟩, #[]⟩
def Qj (P:Params):Obj:=dO 4 [e P bF 305 (s uE 198),e P bI 307 (s rM 306),e P cF 309 (.int (19) 308),e P dF 310 (.ref 102)]
def Rj:Obj:=cO [s rM 300,s rM 301,s z2 302,i 19,i 0,i 0,i 0,i 0,.ref 98,(.bool false),i 181,.ref 99,.none,.none,.none,.none,i 303,i 19,s z2 304]
def Sj:Obj:=⟨(.type "frame"),none,.plain, #[(some (.ref 100)),(some (.ref 3)),(some (.ref 97)),none,(some (s uE 198)),none,(some (.ref 0))]⟩
def Tj:Obj:=⟨(.type "super"),none,.fields ⟨[.ref 104,.ref 104,.ref 104]⟩, #[]⟩
def Uj:Obj:=⟨(.type "builtin_function_or_method"),none,.fields ⟨[(.builtin "object.__init_subclass__"),.ref 104]⟩, #[]⟩
def Vj (P:Params):Obj:=dO 4 [e P bF 321 (s uE 198),e P bI 323 (s sM 322),e P cF 325 (.int (21) 324),e P dF 326 (.ref 114)]
def Wj:Obj:=cO [s sM 316,s sM 317,s z2 318,i 21,i 0,i 0,i 0,i 0,.ref 110,(.bool false),i 181,.ref 111,.none,.none,.none,.none,i 319,i 21,s z2 320]
def Xj:Obj:=⟨(.type "frame"),none,.plain, #[(some (.ref 112)),(some (.ref 3)),(some (.ref 109)),none,(some (s uE 198)),none,(some (.ref 0))]⟩
def Yj:Obj:=⟨(.type "super"),none,.fields ⟨[.ref 116,.ref 116,.ref 116]⟩, #[]⟩
def Zj:Obj:=⟨(.type "builtin_function_or_method"),none,.fields ⟨[(.builtin "object.__init_subclass__"),.ref 116]⟩, #[]⟩
def ak (P:Params):Obj:=dO 4 [e P bF 337 (s uE 198),e P bI 339 (s tM 338),e P cF 341 (.int (23) 340),e P dF 342 (.ref 126)]
def dk:Obj:=cO [s tM 332,s tM 333,s z2 334,i 23,i 0,i 0,i 0,i 0,.ref 122,(.bool false),i 181,.ref 123,.none,.none,.none,.none,i 335,i 23,s z2 336]
def fk:Obj:=⟨(.type "frame"),none,.plain, #[(some (.ref 124)),(some (.ref 3)),(some (.ref 121)),none,(some (s uE 198)),none,(some (.ref 0))]⟩
def gk:Obj:=⟨(.type "super"),none,.fields ⟨[.ref 128,.ref 128,.ref 128]⟩, #[]⟩
def ik:Obj:=⟨(.type "builtin_function_or_method"),none,.fields ⟨[(.builtin "object.__init_subclass__"),.ref 128]⟩, #[]⟩
def jk (P:Params):Obj:=dO 4 [e P bF 353 (s uE 198),e P bI 355 (s uM 354),e P cF 357 (.int (25) 356),e P dF 358 (.ref 138)]
def qk:Obj:=cO [s uM 348,s uM 349,s z2 350,i 25,i 0,i 0,i 0,i 0,.ref 134,(.bool false),i 181,.ref 135,.none,.none,.none,.none,i 351,i 25,s z2 352]
def sk:Obj:=⟨(.type "frame"),none,.plain, #[(some (.ref 136)),(some (.ref 3)),(some (.ref 133)),none,(some (s uE 198)),none,(some (.ref 0))]⟩
def uk:Obj:=⟨(.type "super"),none,.fields ⟨[.ref 140,.ref 140,.ref 140]⟩, #[]⟩
def wk:Obj:=⟨(.type "builtin_function_or_method"),none,.fields ⟨[(.builtin "object.__init_subclass__"),.ref 140]⟩, #[]⟩
def xk (P:Params):Obj:=dO 4 [e P bF 369 (s uE 198),e P bI 371 (s vM 370),e P cF 373 (.int (27) 372),e P dF 374 (.ref 150)]
def yk:Obj:=cO [s vM 364,s vM 365,s z2 366,i 27,i 0,i 0,i 0,i 0,.ref 146,(.bool false),i 181,.ref 147,.none,.none,.none,.none,i 367,i 27,s z2 368]
def zk:Obj:=⟨(.type "frame"),none,.plain, #[(some (.ref 148)),(some (.ref 3)),(some (.ref 145)),none,(some (s uE 198)),none,(some (.ref 0))]⟩
def Nk:Obj:=⟨(.type "super"),none,.fields ⟨[.ref 152,.ref 152,.ref 152]⟩, #[]⟩
def Pk:Obj:=⟨(.type "builtin_function_or_method"),none,.fields ⟨[(.builtin "object.__init_subclass__"),.ref 152]⟩, #[]⟩
def Qk:Obj:=⟨.none,none,.func {name:=(S QM),qualname:=(S QM),params:=zC (qC 16),body:=.stmts (xC (qC 16)),scope:=cC (qC 16),globals:=0,closure:=[],defaults:=.none,kwdefaults:=.none,doc:=.none,pyModule:=.none,annotations:=none,code:=.none,closureTuple:=.none,builtins:=0}, #[]⟩
def Uk:Obj:=⟨.none,none,.func {name:=(S RM),qualname:=(S RM),params:=zC (qC 17),body:=.stmts (xC (qC 17)),scope:=cC (qC 17),globals:=0,closure:=[],defaults:=.none,kwdefaults:=.none,doc:=.none,pyModule:=.none,annotations:=none,code:=.none,closureTuple:=.none,builtins:=0}, #[]⟩
def Vk:Obj:=⟨.none,none,.func {name:=(S SM),qualname:=(S SM),params:=zC (qC 20),body:=.stmts (xC (qC 20)),scope:=cC (qC 20),globals:=0,closure:=[],defaults:=.none,kwdefaults:=.none,doc:=.none,pyModule:=.none,annotations:=none,code:=.none,closureTuple:=.none,builtins:=0}, #[]⟩
def Wk:Obj:=⟨.none,none,.func {name:=(S TM),qualname:=(S TM),params:=zC (qC 21),body:=.stmts (xC (qC 21)),scope:=cC (qC 21),globals:=0,closure:=[],defaults:=.none,kwdefaults:=.none,doc:=.none,pyModule:=.none,annotations:=none,code:=.none,closureTuple:=.none,builtins:=0}, #[]⟩
def Xk:Obj:=⟨.none,none,.func {name:=(S UM),qualname:=(S UM),params:=zC (qC 22),body:=.stmts (xC (qC 22)),scope:=cC (qC 22),globals:=0,closure:=[],defaults:=.none,kwdefaults:=.none,doc:=.none,pyModule:=.none,annotations:=none,code:=.none,closureTuple:=.none,builtins:=0}, #[]⟩
def Yk:Obj:=⟨.none,none,.func {name:=(S VM),qualname:=(S VM),params:=zC (qC 23),body:=.stmts (xC (qC 23)),scope:=cC (qC 23),globals:=0,closure:=[],defaults:=.none,kwdefaults:=.none,doc:=.none,pyModule:=.none,annotations:=none,code:=.none,closureTuple:=.none,builtins:=0}, #[]⟩
def Zk:Obj:=⟨.none,none,.func {name:=(S WM),qualname:=(S WM),params:=zC (qC 24),body:=.stmts (xC (qC 24)),scope:=cC (qC 24),globals:=0,closure:=[],defaults:=.none,kwdefaults:=.none,doc:=.none,pyModule:=.none,annotations:=none,code:=.none,closureTuple:=.none,builtins:=0}, #[]⟩
section
variable (P:Params)
def il:W.BT:=.node AF (.node (bP P) .nil .nil) (.node AF .nil .nil)
def jl (P:Params):W.BT:=.node HF (.node Qk .nil .nil) .nil
def ll:W.BT:=.node (Pa P) (.node HF .nil .nil) .nil
def ql (P:Params):W.BT:=.node AF (.node qP .nil .nil) .nil
def ul (P:Params):W.BT:=.node HF (.node AF .nil .nil) (.node BP .nil .nil)
def wl:W.BT:=.node (XO P) (.node mP .nil .nil) .nil
def xl:W.BT:=.node AF (.node (fP P) .nil .nil) .nil
def yl (P:Params):W.BT:=.node HF (.node lC .nil .nil) .nil
def zl:W.BT:=.node (W.boot_o_7 P) (.node lC (.node qa (il P) (jl P)) (.node HF (ll P) (ql P))) (.node cI (.node AF (ul P) (wl P)) (.node (ya P) (xl P) (yl P)))
def Ol:W.BT:=.node (Na P) (.node HF .nil .nil) (.node yP .nil .nil)
def Pl (P:Params):W.BT:=.node AF (.node AF .nil .nil) .nil
def Ql (P:Params):W.BT:=.node HF (.node AF .nil .nil) .nil
def Rl:W.BT:=.node (ZO P) (.node lC .nil .nil) .nil
def Sl:W.BT:=.node AF (.node (dP P) .nil .nil) (.node DP .nil .nil)
def Tl (P:Params):W.BT:=.node HF (.node oP .nil .nil) .nil
def Ul:W.BT:=.node (Ra P) (.node lC .nil .nil) .nil
def Vl (P:Params):W.BT:=.node AF (.node Xk .nil .nil) .nil
def Wl:W.BT:=.node lC (.node Wi (.node HF (Ol P) (Pl P)) (.node AF (Ql P) (Rl P))) (.node Yi (.node (va P) (Sl P) (Tl P)) (.node HF (Ul P) (Vl P)))
def Xl (P:Params):W.BT:=.node qj (.node gk .nil .nil) (.node lC .nil .nil)
def Yl:W.BT:=.node (Qj P) (.node kP .nil .nil) .nil
def Zl:W.BT:=.node wj (.node (xk P) .nil .nil) .nil
def am (P:Params):W.BT:=.node Xj (.node AF .nil .nil) .nil
def cm:W.BT:=.node (tj P) (.node sk .nil .nil) (.node Zk .nil .nil)
def fm (P:Params):W.BT:=.node Tj (.node lC .nil .nil) .nil
def gm (P:Params):W.BT:=.node Nj (.node Nk .nil .nil) .nil
def im:W.BT:=.node (ak P) (.node uP .nil .nil) .nil
def jm:W.BT:=.node (W.boot_o_9 P) (.node ca (.node aj (Xl P) (Yl P)) (.node (jj P) (Zl P) (am P))) (.node lC (.node fj (cm P) (fm P)) (.node mj (gm P) (im P)))
def km:W.BT:=.node rj (.node (jk P) .nil .nil) (.node lC .nil .nil)
def lm (P:Params):W.BT:=.node Sj (.node lC .nil .nil) .nil
def om:W.BT:=.node (yj P) (.node zk .nil .nil) .nil
def qm (P:Params):W.BT:=.node Yj (.node sP .nil .nil) .nil
def rm (P:Params):W.BT:=.node vj (.node uk .nil .nil) .nil
def vm:W.BT:=.node (Vj P) (.node Vk .nil .nil) .nil
def wm (P:Params):W.BT:=.node Oj (.node iP .nil .nil) .nil
def xm (P:Params):W.BT:=.node fk (.node wP .nil .nil) .nil
def ym:W.BT:=.node X0 (.node ga (.node (cj P) (km P) (lm P)) (.node lj (om P) (qm P))) (.node vF (.node gj (rm P) (vm P)) (.node (oj P) (wm P) (xm P)))
def zm (P:Params):W.BT:=.node pj (.node cP .nil .nil) (.node xP .nil .nil)
def Nm (P:Params):W.BT:=.node cI (.node jP .nil .nil) .nil
def Om (P:Params):W.BT:=.node Qa (.node cI .nil .nil) .nil
def Qm (P:Params):W.BT:=.node Wj (.node lC .nil .nil) .nil
def Rm (P:Params):W.BT:=.node cI (.node qk .nil .nil) (.node lC .nil .nil)
def Sm (P:Params):W.BT:=.node YO (.node nP .nil .nil) .nil
def Um (P:Params):W.BT:=.node zj (.node gP .nil .nil) .nil
def Vm (P:Params):W.BT:=.node cI (.node AF .nil .nil) .nil
def Wm:W.BT:=.node (W.boot_o_8 P) (.node AF (.node ua (zm P) (Nm P)) (.node cI (Om P) (Qm P))) (.node (Xi P) (.node dj (Rm P) (Sm P)) (.node za (Um P) (Vm P)))
def Xm (P:Params):W.BT:=.node Oa (.node cI .nil .nil) (.node zP .nil .nil)
def Ym (P:Params):W.BT:=.node Rj (.node lP .nil .nil) .nil
def Zm (P:Params):W.BT:=.node cI (.node yk .nil .nil) .nil
def cn (P:Params):W.BT:=.node aP (.node Wk .nil .nil) .nil
def ln (P:Params):W.BT:=.node uj (.node eP .nil .nil) .nil
def vn (P:Params):W.BT:=.node cI (.node lC .nil .nil) .nil
def xn (P:Params):W.BT:=.node Sa (.node AF .nil .nil) .nil
def yn (P:Params):W.BT:=.node dk (.node vP .nil .nil) .nil
def zn:W.BT:=.node Vi (.node da (.node cI (Xm P) (Ym P)) (.node kj (Zm P) (cn P))) (.node Zi (.node xa (ln P) (vn P)) (.node cI (xn P) (yn P)))
def Nn (P:Params):W.BT:=.node vF (.node ik .nil .nil) (.node Yk .nil .nil)
def On (P:Params):W.BT:=.node lC (.node lC .nil .nil) .nil
def Qn (P:Params):W.BT:=.node xj (.node lC .nil .nil) .nil
def Sn (P:Params):W.BT:=.node vF (.node rP .nil .nil) .nil
def Vn (P:Params):W.BT:=.node lC (.node vF .nil .nil) (.node CP .nil .nil)
def Wn (P:Params):W.BT:=.node Uj (.node AF .nil .nil) .nil
def Xn (P:Params):W.BT:=.node vF (.node Pk .nil .nil) .nil
def Yn (P:Params):W.BT:=.node lC (.node lC .nil .nil) .nil
def Zn:W.BT:=.node (W.boot_o_10 P) (.node lC (.node bj (Nn P) (On P)) (.node lC (Qn P) (Sn P))) (.node AF (.node vF (Vn P) (Wn P)) (.node nj (Xn P) (Yn P)))
def ao (P:Params):W.BT:=.node sj (.node lC .nil .nil) (.node AF .nil .nil)
def fo (P:Params):W.BT:=.node vF (.node Uk .nil .nil) .nil
def io (P:Params):W.BT:=.node lC (.node vF .nil .nil) .nil
def jo (P:Params):W.BT:=.node Zj (.node tP .nil .nil) .nil
def ko (P:Params):W.BT:=.node vF (.node wk .nil .nil) .nil
def mo (P:Params):W.BT:=.node lC (.node pP .nil .nil) .nil
def oo (P:Params):W.BT:=.node Pj (.node lC .nil .nil) .nil
def qo (P:Params):W.BT:=.node vF (.node lC .nil .nil) .nil
def uo:W.BT:=.node Y0 (.node ja (.node lC (ao P) (fo P)) (.node vF (io P) (jo P))) (.node (ma P) (.node ij (ko P) (mo P)) (.node lC (oo P) (qo P)))
def vo:W.BT:=.node (W.boot_o_0 P) (.node (W.boot_o_1 P) (.node (yM P) (zl P) (Wl P)) (.node (W.boot_o_5 P) (jm P) (ym P))) (.node (W.boot_o_2 P) (.node (W.boot_o_4 P) (Wm P) (zn P)) (.node (W.boot_o_6 P) (Zn P) (uo P)))
end
def KG (w:World) (os:OsState):W.SharedT:=⟨vo w.params,204,(W.boot_heap w.params).life, #[],W.boot_drawn,441,os⟩
def _root_.PySem.W.Fast.tw15629318191200633153:World->OsState->W.SharedT:=KG
theorem _root_.PySem.W.Fast.te15629318191200633153:@Eq (World->OsState->W.SharedT) KG _root_.PySem.W.Fast.tw15629318191200633153:=rfl
def bs:List Stmt:=W.behindTheImports PySem.Challenge.pw_frameland_k55_folded_rooms
def env:Env:={scope:=PySem.Challenge.pw_frameland_k55_folded_rooms.main.scope,locals:=mainNs,globals:=mainNs,cells:=[],code:=(.ref 13),frame:=some 14}
def L0 (w:World) (os:OsState):=GM treeTable PySem.Challenge.pw_frameland_k55_folded_rooms w (W.boot_heap w.params).objs.size (NE w) 12 (CF w os) (W.topStub PySem.Challenge.pw_frameland_k55_folded_rooms)
def R0 (w:World) (os:OsState):=some (ZM w os,(⟨denote treeTable (Code.body bs env),(Code.body bs env),⟨0,0,0,0⟩,[W.topFrame ⟨0,0,0,0⟩]⟩:Thread))
def L1 (w:World) (os:OsState):=W.segRunT treeTable PySem.Challenge.pw_frameland_k55_folded_rooms w (W.boot_heap w.params).objs.size (NE w) 1 1 (ZM w os) (W.blockOf bs env (Code.body bs env) ⟨0,0,0,0⟩ [W.topFrame ⟨0,0,0,0⟩])
def R1 (w:World) (os:OsState):=some (Flow.next,aN w os,(Code.body bs env),(⟨0,0,0,0⟩:Pos))
def L2 (w:World) (os:OsState):=W.segRunT treeTable PySem.Challenge.pw_frameland_k55_folded_rooms w (W.boot_heap w.params).objs.size (NE w) 1 2611 (aN w os) (W.piecesOf ((bs).take 25) env (Code.body bs env) ⟨0,0,0,0⟩ [W.topFrame ⟨0,0,0,0⟩])
def R2 (w:World) (os:OsState):=some (Flow.next,KG w os,(Code.body bs env),(⟨49,0,50,99⟩:Pos))
def lhs (w:World) (os:OsState):=(SF treeTable PySem.Challenge.pw_frameland_k55_folded_rooms w (W.boot_heap w.params).objs.size (NE w) 6385 (KG w os) (W.restOf ((bs).drop 25) env (Code.body bs env) ⟨49,0,50,99⟩ [W.topFrame ⟨0,0,0,0⟩])).map (λs=>look PySem.Challenge.pw_frameland_k55_folded_rooms (λs=>uI.map s.heap.get?) (W.boot_heap w.params) s.abs)
def rhs (w:World):=some (true,Kc w.params)
def lht (w:World) (os:OsState):=(SF treeTable PySem.Challenge.pw_frameland_k55_folded_rooms w (W.boot_heap w.params).objs.size (NE w) 6385 (KG w os) (W.restOf ((bs).drop 25) env (Code.body bs env) ⟨49,0,50,99⟩ [W.topFrame ⟨0,0,0,0⟩])).map (λs=>W.openSeen vw [] (PySem.importedModules PySem.Challenge.pw_frameland_k55_folded_rooms.main.body) (λs=>W.xlAt vw [] s&&W.recOk (W.RowW.records (PySem.Challenge.rw_frameland_k55_folded_rooms).row.toRowW) s) true s.abs)
def rht:=some (W.openGood vw [])
theorem twins0:(λ(_ _:World->OsState->_)=>true) L0 R0=true:=by k_qdec
theorem Z0:∀(w:World) (os:OsState),PySem.W.Fast.tw6480634986709459259 w os=PySem.W.Fast.tw3368112316094526086 w os:=by intro w os;kernel_rfl
theorem h0 (w:World) (os:OsState):GM treeTable PySem.Challenge.pw_frameland_k55_folded_rooms w (W.boot_heap w.params).objs.size (NE w) 12 (CF w os) (W.topStub PySem.Challenge.pw_frameland_k55_folded_rooms)=some (ZM w os,(⟨denote treeTable (Code.body bs env),(Code.body bs env),⟨0,0,0,0⟩,[W.topFrame ⟨0,0,0,0⟩]⟩:Thread)):=(QB (QB PySem.W.Fast.te6480634986709459259 w) os).trans ((Z0 w os).trans (QB (QB PySem.W.Fast.te3368112316094526086 w) os).symm)
theorem twins1:(λ(_ _:World->OsState->_)=>true) L1 R1=true:=by k_qdec
theorem j1:∀(w:World) (os:OsState),PySem.W.Fast.tw6549898218072122711 w os=PySem.W.Fast.tw8138977323033037049 w os:=by intro w os;kernel_rfl
theorem h1 (w:World) (os:OsState):W.segRunT treeTable PySem.Challenge.pw_frameland_k55_folded_rooms w (W.boot_heap w.params).objs.size (NE w) 1 1 (ZM w os) (W.blockOf bs env (Code.body bs env) ⟨0,0,0,0⟩ [W.topFrame ⟨0,0,0,0⟩])=some (Flow.next,aN w os,(Code.body bs env),(⟨0,0,0,0⟩:Pos)):=(QB (QB PySem.W.Fast.te6549898218072122711 w) os).trans ((j1 w os).trans (QB (QB PySem.W.Fast.te8138977323033037049 w) os).symm)
theorem twins2:(λ(_ _:World->OsState->_)=>true) L2 R2=true:=by k_qdec
theorem N1:∀(w:World) (os:OsState),PySem.W.Fast.tw5255168214638199525 w os=PySem.W.Fast.tw18023110596874490952 w os:=by intro w os;kernel_rfl
theorem h2 (w:World) (os:OsState):W.segRunT treeTable PySem.Challenge.pw_frameland_k55_folded_rooms w (W.boot_heap w.params).objs.size (NE w) 1 2611 (aN w os) (W.piecesOf ((bs).take 25) env (Code.body bs env) ⟨0,0,0,0⟩ [W.topFrame ⟨0,0,0,0⟩])=some (Flow.next,KG w os,(Code.body bs env),(⟨49,0,50,99⟩:Pos)):=(QB (QB PySem.W.Fast.te5255168214638199525 w) os).trans ((N1 w os).trans (QB (QB PySem.W.Fast.te18023110596874490952 w) os).symm)
theorem twins:(λ(_:World->OsState->_) (_:World->_) (_:World->OsState->_) (_:Option _)=>true) lhs rhs lht rht=true:=by k_qdec
theorem wo:∀(w:World) (os:OsState),PySem.W.Fast.tw7128866508377749982 w os=PySem.W.Fast.tw12590348191598281069 w:=by intro w os;kernel_rfl
theorem xo:∀(w:World) (os:OsState),PySem.W.Fast.tw7374437481920917934 w os=PySem.W.Fast.tw10733892774512676622:=by intro w os;kernel_rfl
theorem left:W.LeftO PySem.Challenge.pw_frameland_k55_folded_rooms vw [] (λs=>W.xlAt vw [] s&&W.recOk (W.RowW.records (PySem.Challenge.rw_frameland_k55_folded_rooms).row.toRowW) s) (λs=>uI.map s.heap.get?) (λw=>(Kf w.params).map λp=>some p.2) (12+(1+(2611+(6385)))):=by
 refine Ue (Nl:=6385) (S:=KG) (t:=(W.restOf ((bs).drop 25) env (Code.body bs env) ⟨49,0,50,99⟩ [W.topFrame ⟨0,0,0,0⟩])) (by kernel_rfl) (by kernel_rfl) (by intro s;kernel_rfl) (λw os r k=>W.go_top (n:=12) (N:=1+(2611+(6385))) (Z5 (h0 w os)) (W.piece_block (n:=1) (N:=2611+(6385)) (W.segRun_of (h1 w os)) (mL (n:=2611) (N:=6385) (h2 w os) k))) (λw os=>?_) λw os=>?_
 ·rw[<-GP];exact (QB (QB PySem.W.Fast.te7128866508377749982 w) os).trans ((wo w os).trans (QB PySem.W.Fast.te12590348191598281069 w).symm)
 ·exact (QB (QB PySem.W.Fast.te7374437481920917934 w) os).trans ((xo w os).trans PySem.W.Fast.te10733892774512676622.symm)
end
end Pf
namespace L2
open PySem PySem.Spec PyProof.Rows
noncomputable abbrev Key:=Sum Int Str
def BF:Key->Value->Bool
 |.inl k,v=>Value.isInt k v
 |.inr x,v=>Value.isStrOf x v
def MQ (w:World):Key->Int
 |.inl k=>hashInt k
 |.inr x=>hashStr w x
theorem vI:∀{k:Key} {v:Value},BF k v=true->(∃i t,k=Sum.inl i/\v=Value.int i t)\/(∃x t,k=Sum.inr x/\v=Value.str x t)
 |.inl i,v,h=>by
  obtain⟨t,e⟩:=Value.isInt_shape (k:=i) (v:=v) h;exact .inl ⟨i,t,rfl,e⟩
 |.inr x,v,h=>by
  obtain⟨t,e⟩:=Value.isStrOf_shape (x:=x) (v:=v) h;exact .inr ⟨x,t,rfl,e⟩
theorem Ta (i:Int) (t:Tok):BF (.inl i) (.int i t)=true:=by simp[BF,Value.isInt]
theorem Ua (x:Str) (t:Tok):BF (.inr x) (.str x t)=true:=by simp[BF,Value.isStrOf]
theorem vK (a b:Int):decide ((Sum.inl a:Key)=Sum.inl b)=(a == b):=by
 by_cases e:a=b
 ·subst e;simp
 ·have h:¬(Sum.inl a:Key)=Sum.inl b:=λq=>e (YA q);rw[HA h];exact (FB.mpr e).symm
theorem wK (a b:Str):decide ((Sum.inr a:Key)=Sum.inr b)=decide (a=b):=by
 by_cases e:a=b
 ·subst e;simp
 ·have h:¬(Sum.inr a:Key)=Sum.inr b:=λq=>e (Sum.inr.inj q);rw[HA h,HA e]
theorem xK (a:Int) (b:Str):decide ((Sum.inl a:Key)=Sum.inr b)=false:=HA (λq=>nomatch q)
theorem yK (a:Str) (b:Int):decide ((Sum.inr a:Key)=Sum.inl b)=false:=HA (λq=>nomatch q)
def HC (prog:Program) (w:World):PySem.KeyKind prog w Key where
 is:=BF
 hash:=MQ w
 inj:=λv a b ha hb=>by
  rcases vI ha with ⟨i,t,rfl,rfl⟩|⟨x,t,rfl,rfl⟩
  ·rcases vI hb with ⟨j,u,rfl,e⟩|⟨y,u,rfl,e⟩
   ·injection e with e1 _;rw[e1]
   ·exact nomatch e
  ·rcases vI hb with ⟨j,u,rfl,e⟩|⟨y,u,rfl,e⟩
   ·exact nomatch e
   ·injection e with e1 _;rw[e1]
 byValue:=λk v h=>by
  rcases vI h with ⟨i,t,rfl,rfl⟩|⟨x,t,rfl,rfl⟩<;>rfl
 pyHash:=λhv h=>by
  rcases vI hv with ⟨i,t,rfl,rfl⟩|⟨x,t,rfl,rfl⟩
  ·exact wpAny_pyHash_int h
  ·exact wpAny_pyHash_str h
 eqBool:=λhu hv h=>by
  rcases vI hu with ⟨i,t,rfl,rfl⟩|⟨x,t,rfl,rfl⟩
  ·rcases vI hv with ⟨j,u,rfl,rfl⟩|⟨y,u,rfl,rfl⟩
   ·rw[vK] at h;exact wpAny_eqBool_int h
   ·rw[xK] at h;exact SeqAt.EqAt.int_str i t y u _ _ _ _ h
  ·rcases vI hv with ⟨j,u,rfl,rfl⟩|⟨y,u,rfl,rfl⟩
   ·rw[yK] at h;exact SeqAt.EqAt.str_int x t j u _ _ _ _ h
   ·rw[wK] at h;exact wpAny_eqBool_str h
 «strs» :=λk x t v h=>by
  rcases vI h with ⟨i,u,rfl,e⟩|⟨y,u,rfl,e⟩
  ·exact nomatch e
  ·injection e with e1 _;subst e1;cases v<;>rfl
theorem Va (prog:Program) (w:World) (i:Int) (t:Tok):(HC prog w).is (.inl i) (.int i t)=true:=Ta i t
theorem Wa (prog:Program) (w:World) (x:Str) (t:Tok):(HC prog w).is (.inr x) (.str x t)=true:=Ua x t
end L2
namespace L2
open PySem PySem.Spec PyProof.Rows
inductive V where
 |non|bl (b:Bool)|int (i:Int)|str (x:Str)|byt (b:Array UInt8)|flt (b:UInt64)|ref (a:Addr)|ty (n:String)
 deriving DecidableEq
def pC:V->Value->Prop
 |.non,u=>u=Value.none
 |.bl b,u=>u=Value.bool b
 |.int i,u=>∃t,u=Value.int i t
 |.str x,u=>∃t,u=Value.str x t
 |.byt b,u=>∃t,u=Value.bytes b t
 |.flt b,u=>∃t,u=Value.float b t
 |.ref a,u=>u=Value.ref a
 |.ty n,u=>u=Value.type n
noncomputable abbrev sC:List V->List Value->Prop:=Paired pC
theorem sC.length {xs:List V} {us:List Value} (r:sC xs us):xs.length=us.length:=Paired.length r
theorem sC.get:∀{xs:List V} {us:List Value} {i:Nat} {x:V},sC xs us->xs[i]?=some x->∃u,us[i]?=some u/\pC x u
 |_,_,_,_,.nil,e=>by simp at e
 |_,_,0,_,.cons r _,e=>by simp at e;subst e;exact⟨_,rfl,r⟩
 |_,_,i+1,x,.cons _ t,e=>by
  obtain⟨u,h1,h2⟩:=sC.get (i:=i) (x:=x) t (by simpa using e);exact⟨u,by simpa using h1,h2⟩
theorem sC.set {x:V} {u:Value} (r:pC x u):∀{xs:List V} {us:List Value} (i:Nat),sC xs us->sC (xs.set i x) (us.set i u)
 |_,_,_,.nil=>.nil
 |_,_,0,.cons _ t=>.cons r t
 |_,_,i+1,.cons q t=>.cons q (sC.set r i t)
theorem sC.append:∀{xs ys:List V} {us ws:List Value},sC xs us->sC ys ws->sC (xs++ys) (us++ws)
 |_,_,_,_,.nil,s=>s
 |_,_,_,_,.cons r t,s=>.cons r (sC.append t s)
theorem sC.take:∀{xs:List V} {us:List Value} (n:Nat),sC xs us->sC (xs.take n) (us.take n)
 |_,_,0,_=>.nil
 |_,_,_+1,.nil=>.nil
 |_,_,n+1,.cons r t=>.cons r (sC.take n t)
theorem sC.drop:∀{xs:List V} {us:List Value} (n:Nat),sC xs us->sC (xs.drop n) (us.drop n)
 |_,_,0,r=>r
 |_,_,_+1,.nil=>.nil
 |_,_,n+1,.cons _ t=>sC.drop n t
def dE:Option V->Option Value->Prop
 |some v,some u=>pC v u
 |none,none=>True
 |_,_=>False
def KV {κ:Type}:List (κ×V)->List (κ×Value)->Prop:=Paired λ(p:κ×V) (q:κ×Value)=>p.1=q.1/\pC p.2 q.2
def kV:Key->V
 |.inl i=>.int i
 |.inr x=>.str x
inductive HO where
 |lst (xs:List V)
 |tup (xs:List V)
 |dK (kvs:List (Key×V))|dT (kvs:List (List Key×V))
 |set (S:Int->Bool) (n:Nat)
 |ins (C dx:Addr) (fs:List (Str×V))
 |own (x:Addr)
 |xd (fs:List (Str×V))
 |met (f x:Addr)
 |rng (lo hi:Int)
 |frz (o:Obj) (u:HO)
 |tbl (ps:Array Value)
 |ext (φ:Heap->Prop)
noncomputable abbrev Hp:=Addr->Option HO
def jC (H:Hp) (a:Addr) (o:HO):Hp:=λb=>if b=a then some o else H b
theorem IC {H:Hp} {a:Addr} {o:HO}:jC H a o a=some o:=by unfold jC;rw[iA rfl]
theorem vC {H:Hp} {a b:Addr} {o:HO} (h:b≠a):jC H a o b=H b:=by unfold jC;rw[fA h]
theorem Xa {H:Hp} {a:Addr} {o u:HO}:jC (jC H a o) a u=jC H a u:=by
 funext b;unfold jC;split<;>rfl
theorem LC {H:Hp} {a b:Addr} {o u:HO} (h:H a=some o) (h':H b=some u) (d:o≠u):a≠b:=by
 intro e;subst e;rw[h] at h';exact d (rA h')
theorem bD {H:Hp} {a b:Addr} {o:HO} (h:H a=some o) (h':H b=none):a≠b:=by
 intro e;subst e;rw[h] at h';cases h'
section
variable (P:Program) (w:World)
def MC (H:Hp) (h:Heap) (a:Addr):HO->Prop
 |.lst xs=>xs.length<=sizeLine/\∃(its:List Value) (n:Nat),sC xs its/\h.get? a=some {cls:=.type "list",data:=.seq its.toArray n}
 |.tup xs=>xs.length<=sizeLine/\∃its:List Value,sC xs its/\IsTup h a its.toArray
 |.dK kvs=>kvs.length<=sizeLine/\(a == sysModules)=false/\∃vs,KV kvs vs/\h.DictOf (HC P w) a vs
 |.dT kvs=>kvs.length<=sizeLine/\(a == sysModules)=false/\∃xs:List (List Key×Addr×Value),
  Paired (λ(p:List Key×V) (q:List Key×Addr×Value)=>p.1=q.1/\H q.2.1=some (.tup (p.1.map kV))/\pC p.2 q.2.2) kvs xs/\
  ∃o es ep,h.get? a=some o/\o.ExactDict/\o.data=.dict es ep/\es.toList=xs.map (entryOfKey (tupleKind (HC P w)))/\(xs.map (·.1)).Nodup
 |.set S n=>h.SetOf (intKind P w) a S n
 |.ins C dx fs=>H dx=some (.own a)/\fs.length<=1000/\dx≠a/\h.get? a=some (PySem.W.instObj C dx)/\
  ∃mA,h.Ns1 dx mA/\(∀f,dE (fs.lookup f) (mA f))/\PySem.Within mA (fs.map (·.1))
 |.own _=>∃o,h.get? a=some o
 |.xd fs=>∃mA,h.Ns1 a mA/\∀f,dE (fs.lookup f) (mA f)
 |.rng lo hi=>∃t u v,h.get? a=some {cls:=.type "range",data:=.fields #[.int lo t,.int hi u,.int 1 v]}
 |.frz o u=>h.get? a=some o/\MC H h a u
 |.tbl ps=>h.get? a=some {cls:=.none,data:=.fields ps}
 |.met f x=>h.get? a=some (PySem.W.methodObj (.ref f) (.ref x))
 |.ext φ=>φ h/\(∃o,h.get? a=some o)/\∀h1 h2:Heap,φ h1->(∀o,h1.get? a=some o->h2.get? a=some o)->φ h2
def jE (H:Hp) (h:Heap):Prop:=∀a o,H a=some o->MC P w H h a o
end
section
variable {P:Program} {w:World} {H H':Hp} {h h':Heap} {a:Addr} {o:HO}
theorem MC.lt (x:MC P w H h a o):a < h.objs.size:=by
 cases o with
 |lst xs=>obtain⟨_,_,_,_,e⟩:=x;exact BA e
 |tup xs=>obtain⟨_,_,_,p⟩:=x;exact p.lt
 |dK kvs=>obtain⟨_,_,_,_,o,_,_,e,_⟩:=x;exact BA e
 |dT kvs=>obtain⟨_,_,_,_,o,_,_,e,_⟩:=x;exact BA e
 |set S n=>obtain⟨o,_,_,_,e,_⟩:=x;exact BA e
 |ins C dx fs=>obtain⟨_,_,_,e,_⟩:=x;exact BA e
 |own y=>obtain⟨_,e⟩:=x;exact BA e
 |xd fs=>obtain⟨_,⟨_,_,_,e,_⟩,_⟩:=x;exact BA e
 |rng lo hi=>obtain⟨_,_,_,e⟩:=x;exact BA e
 |frz ob u=>obtain⟨e,_⟩:=x;exact BA e
 |tbl ps=>exact BA (show h.get? a=some _ from x)
 |met f y=>exact BA (show h.get? a=some _ from x)
 |ext φ=>obtain⟨_,⟨_,e⟩,_⟩:=x;exact BA e
theorem Paired.mapP {α β:Type} {F G:α->β->Prop}:∀{l₁:List α} {l₂:List β},Paired F l₁ l₂->(∀a b,F a b->G a b)->Paired G l₁ l₂
 |_,_,.nil,_=>.nil
 |_,_,.cons r t,f=>.cons (f _ _ r) (Paired.mapP t f)
theorem MC.stay (x:MC P w H h a o) (k:∀b u,(b=a\/H b=some (.own a))->h.get? b=some u->h'.get? b=some u)
  (ho:∀b,H b=some (.own a)->H' b=some (.own a)) (ht:∀b xs,H b=some (.tup xs)->H' b=some (.tup xs)):MC P w H' h' a o:=by
 induction o with
 |lst xs=>obtain⟨z,its,n,r,e⟩:=x;exact⟨z,its,n,r,k _ _ (.inl rfl) e⟩
 |tup xs=>obtain⟨z,its,r,ob,e,c⟩:=x;exact⟨z,its,r,ob,k _ _ (.inl rfl) e,c⟩
 |dK kvs=>obtain⟨z,y,vs,r,ob,es,ep,e,c⟩:=x;exact⟨z,y,vs,r,ob,es,ep,k _ _ (.inl rfl) e,c⟩
 |dT kvs=>
  obtain⟨z,y,xs,r,ob,es,ep,e,c⟩:=x;exact⟨z,y,xs,Paired.mapP r λp q z=>⟨z.1,ht _ _ z.2.1,z.2.2⟩,ob,es,ep,k _ _ (.inl rfl) e,c⟩
 |set S n=>obtain⟨ob,es,ep,t,e,c⟩:=x;exact⟨ob,es,ep,t,k _ _ (.inl rfl) e,c⟩
 |ins C dx fs=>
  obtain⟨d,z,ne,e,mA,⟨od,es,ep,e2,c⟩,r⟩:=x;exact⟨ho _ d,z,ne,k _ _ (.inl rfl) e,mA,⟨od,es,ep,k _ _ (.inr d) e2,c⟩,r⟩
 |own y=>obtain⟨ob,e⟩:=x;exact⟨ob,k _ _ (.inl rfl) e⟩
 |xd fs=>obtain⟨mA,⟨od,es,ep,e,c⟩,r⟩:=x;exact⟨mA,⟨od,es,ep,k _ _ (.inl rfl) e,c⟩,r⟩
 |rng lo hi=>obtain⟨t,u,v,e⟩:=x;exact⟨t,u,v,k _ _ (.inl rfl) e⟩
 |frz ob u ih=>obtain⟨e,q⟩:=x;exact⟨k _ _ (.inl rfl) e,ih q⟩
 |tbl ps=>
  have e:h.get? a=some {cls:=.none,data:=.fields ps}:=x;show h'.get? a=some {cls:=.none,data:=.fields ps};exact k a _ (.inl rfl) e
 |met f y=>
  have e:h.get? a=some (PySem.W.methodObj (.ref f) (.ref y)):=x;show h'.get? a=some (PySem.W.methodObj (.ref f) (.ref y));exact k a _ (.inl rfl) e
 |ext φ=>obtain⟨p,⟨o,e⟩,st⟩:=x;exact⟨st _ _ p λo q=>k _ _ (.inl rfl) q,⟨o,k _ _ (.inl rfl) e⟩,st⟩
theorem jE.lt (x:jE P w H h) (e:H a=some o):a < h.objs.size:=(x a o e).lt
theorem jE.fresh (x:jE P w H h) (e:h.objs.size<=a):H a=none:=by
 cases q:H a with
 |none=>rfl
 |some u=>exact absurd (KA (x.lt q) e) (VB _)
theorem jE.kept (x:jE P w H h) (k:∀b u,h.get? b=some u->h'.get? b=some u):jE P w H h':=λa o e=>
 (x a o e).stay (λb u ο q=>k b u q) (λο q=>q) λο ο q=>q
theorem jE.laid (x:jE P w H h) (k:∀b u,h.get? b=some u->h'.get? b=some u) (hp:h.objs.size<=a) (new:MC P w (jC H a o) h' a o):jE P w (jC H a o) h':=λb u e=>by
 have hn:=x.fresh hp;by_cases hb:b=a
 ·subst hb;rw[IC] at e;cases e;exact new
 ·rw[vC hb] at e;exact (x b u e).stay (λc v ο q=>k c v q) (λc q=>by rw[vC (bD q hn)];exact q) λc xs q=>by rw[vC (bD q hn)];exact q
end
def Rd (H:Hp) (a:Addr) (u:HO):Prop:=H a=some u\/∃o,H a=some (.frz o u)
theorem Rd.of {H:Hp} {a:Addr} {u:HO} (h:H a=some u):Rd H a u:=.inl h
theorem Rd.ok {P:Program} {w:World} {H:Hp} {h:Heap} {a:Addr} {u:HO} (r:Rd H a u) (x:jE P w H h):MC P w H h a u:=by
 rcases r with r|⟨o,r⟩
 ·exact x a u r
 ·obtain⟨_,q⟩:=x a _ r;exact q
def bN:Option HO->Prop
 |some (.lst _)=>True
 |some (.dK _)=>True
 |some (.dT _)=>True
 |some (.set _ _)=>True
 |some (.ins _ _ _)=>True
 |some (.ext _)=>True
 |_=>False
section
variable {P:Program} {w:World} {H:Hp} {h h':Heap} {x e:Addr} {o':HO}
theorem jE.write (ok:jE P w H h) (mu:bN (H x)) (he:e=x\/H e=some (.own x)) (k:∀b u,b≠e->h.get? b=some u->h'.get? b=some u) (heo:∃u,h'.get? e=some u)
  (new:MC P w (jC H x o') h' x o'):jE P w (jC H x o') h':=λb u q=>by
 have nown:∀c y,H c=some (.own y)->c≠x:=λc y r z=>by subst z;rw[r] at mu;exact mu
 have ntup:∀c xs,H c=some (.tup xs)->c≠x:=λc xs r z=>by subst z;rw[r] at mu;exact mu
 by_cases hb:b=x
 ·subst hb;rw[IC] at q;cases q;exact new
 ·rw[vC hb] at q;by_cases hbe:b=e
  ·have q':H b=some (.own x):=by
    rcases he with z|z
    ·exact absurd (hbe.trans z) hb
    ·rw[hbe];exact z
   rw[q] at q';cases q';obtain⟨v,hv⟩:=heo;exact⟨v,by rw[hbe];exact hv⟩
  ·refine (ok b u q).stay (λc v hc r=>k c v ?_ r) (λc r=>by rw[vC (nown c b r)];exact r) λc xs r=>by rw[vC (ntup c xs r)];exact r
   rcases hc with rfl|hc
   ·exact hbe
   ·rintro rfl;rcases he with z|z
    ·exact nown c b hc z
    ·rw[hc] at z;cases z;exact hb rfl
end
structure Un (fs ex:List Addr) (H H':Hp) (h h':Heap):Prop where
 keep:∀b o,h.get? b=some o->H b=none->b∉fs->b∉ex->h'.get? b=some o
 slot:∀b o,h.get? b=some o->H b=none->b∈fs->b∉ex->∃sl,h'.get? b=some {o with slots:=sl}
 free:∀b o,h.get? b=some o->H b=none->b∉ex->H' b=none
 there:∀b o,h.get? b=some o->b∉ex->∃o',h'.get? b=some o'
 tups:∀b xs,H b=some (.tup xs)->H' b=some (.tup xs)
 frzs:∀b o u,H b=some (.frz o u)->H' b=some (.frz o u)
 tbls:∀b ps,H b=some (.tbl ps)->∃more,H' b=some (.tbl (ps++more))
section
variable {fs fs' ex ex':List Addr} {H H1 H2:Hp} {h h1 h2 h':Heap} {a x e:Addr} {o:HO}
theorem Un.any (u:Un fs ex H H1 h h1) {b:Addr} {ob:Obj} (q:h.get? b=some ob) (n:H b=none) (hx:b∉ex):∃sl,h1.get? b=some {ob with slots:=sl}:=by
 by_cases hb:b∈fs
 ·exact u.slot b ob q n hb hx
 ·exact⟨ob.slots,u.keep b ob q n hb hx⟩
theorem Un.trans (a:Un fs ex H H1 h h1) (b:Un fs ex H1 H2 h1 h2):Un fs ex H H2 h h2 where
 keep:=λc ob q n hc hx=>b.keep c ob (a.keep c ob q n hc hx) (a.free c ob q n hx) hc hx
 slot:=λc ob q n hc hx=>by
  obtain⟨sl,e1⟩:=a.slot c ob q n hc hx;obtain⟨sl',e2⟩:=b.slot c _ e1 (a.free c ob q n hx) hc hx;exact⟨sl',e2⟩
 free:=λc ob q n hx=>by
  obtain⟨o',e1⟩:=a.there c ob q hx;exact b.free c o' e1 (a.free c ob q n hx) hx
 there:=λc ob q hx=>by
  obtain⟨o',e1⟩:=a.there c ob q hx;exact b.there c o' e1 hx
 tups:=λc xs q=>b.tups c xs (a.tups c xs q)
 frzs:=λc ob xs q=>b.frzs c ob xs (a.frzs c ob xs q)
 tbls:=λc ps q=>by
  obtain⟨m1,e1⟩:=a.tbls c ps q;obtain⟨m2,e2⟩:=b.tbls c _ e1;exact⟨m1++m2,by rw[e2,Array.append_assoc]⟩
theorem Un.kept (k:∀b u,h.get? b=some u->h'.get? b=some u):Un fs ex H H h h':=
 ⟨λb ob q ο ο ο=>k b ob q,λb ob q ο ο ο=>⟨ob.slots,k b ob q⟩,λο ο ο n ο=>n,λb ob q ο=>⟨ob,k b ob q⟩,λο ο q=>q,λο ο ο q=>q,λο ps q=>⟨#[],by rw[q];simp⟩⟩
theorem Un.refl:Un fs ex H H h h:=Un.kept λο ο q=>q
theorem Un.laid (k:∀b u,h.get? b=some u->h'.get? b=some u) (hp:h.objs.size<=a) (hn:H a=none):Un fs ex H (jC H a o) h h' where
 keep:=λb u q ο ο ο=>k b u q
 slot:=λb u q ο ο ο=>⟨u.slots,k b u q⟩
 free:=λb u q n ο=>by rw[vC (LA (KA (BA q) hp))];exact n
 there:=λb u q ο=>⟨u,k b u q⟩
 tups:=λb xs q=>by rw[vC (bD q hn)];exact q
 frzs:=λb u xs q=>by rw[vC (bD q hn)];exact q
 tbls:=λb ps q=>⟨#[],by rw[vC (bD q hn),q];simp⟩
theorem Un.write (mu:bN (H x)) (he:e=x\/H e=some (.own x)) (k:∀b u,b≠e->h.get? b=some u->h'.get? b=some u) (heo:∃u,h'.get? e=some u):Un fs ex H (jC H x o) h h':=by
 have hx:∀b,H b=none->b≠x:=λb n z=>by subst z;rw[n] at mu;exact mu
 have hb:∀b,H b=none->b≠e:=λb n z=>by
  subst z;rcases he with r|r
  ·exact hx b n r
  ·rw[n] at r;cases r
 have hm:∀b u,H b=some u->¬bN (some u)->b≠x:=λb u q nm z=>by subst z;rw[q] at mu;exact nm mu
 refine⟨λb u q n ο ο=>k b u (hb b n) q,λb u q n ο ο=>⟨u.slots,k b u (hb b n) q⟩,λb u q n ο=>by rw[vC (hx b n)];exact n,λb u q ο=>?_,
  λb xs q=>by rw[vC (hm b _ q λz=>z)];exact q,λb u xs q=>by rw[vC (hm b _ q λz=>z)];exact q,λb ps q=>⟨#[],by rw[vC (hm b _ q λz=>z),q];simp⟩⟩
 by_cases hbe:b=e
 ·subst hbe;exact heo
 ·exact⟨u,k b u hbe q⟩
end
def trk (h:Heap) (H:Hp):List Addr:=(List.range h.objs.size).filter λa=>(H a).isSome
def JF (h:Heap) (H:Hp):Heap:=PySem.W.hideAll h (trk h H)
theorem Za (h:Heap) (H:Hp):(JF h H).objs.size=h.objs.size:=PySem.W.hideAll_size _ _
theorem cb {h:Heap} {H:Hp} {b:Addr} {o:Obj} (e:h.get? b=some o) (n:H b=none):(JF h H).get? b=some o:=
 PySem.W.hideAll_get _ e λhm=>by
  have q:(H b).isSome=true:=(AA.mp hm).2;rw[n] at q;simp at q
theorem db {h:Heap} {H:Hp} {b:Addr} {o:Obj} (e:(JF h H).get? b=some o):h.get? b=some o/\H b=none:=by
 have e':h.get? b=some o:=PySem.W.of_hideAll (trk h H) e;refine⟨e',?_⟩;cases q:H b with
 |none=>rfl
 |some x=>
  have hm:b∈trk h H:=AA.mpr ⟨List.mem_range.mpr (BA e'),by simp[q]⟩;have z:(JF h H).get? b=none:=PySem.W.hideAll_none (trk h H) hm;rw[z] at e;cases e
def wI (g h:Heap) (L:Addr):List (Addr×Obj):=(List.range h.objs.size).filterMap λa=>if a=L\/(g.get? a).isSome=true then none else (h.get? a).map λo=>(a,o)
def rest (g h:Heap) (L d:Addr):List (Addr×Obj):=(wI g h L).filter λp=>decide (p.1≠d)
end L2
namespace L2
open PySem PySem.Spec PyProof.Rows
structure Mod (K:PySem.W.Frag) (mg:Str->Option Value) (base:Heap):Prop where
 kin:K.In base
 glob:base.Ns mainGlobals mg
 blt:∃mb,base.Ns builtinsNs mb/\∀x:Str,x≠"__name__"->mb x=bootBuiltins x
 nolimit:base.NoLimit
set_option genInjectivity false in
structure Cx where
 prog:Program
 w:World
 K:PySem.W.Frag
 mg:Str->Option Value
 base:Heap
 A:Around
 N:List Str
 s₀:Shared
 H₀:Hp
 env:Env
 outer:List Env
 stack:List Env
 ex:List Addr
 fn:Str->Bool
 calm:Bool
 pn:List (Addr×Obj)
 xe:Value->Shared->Prop
def PD (l:List Env):List Addr:=l.filterMap (·.frame)
noncomputable abbrev Cx.fs (X:Cx):List Addr:=PD X.outer
def HP (sc:Scope) (x:Str):Prop:=sc.names.lookup x=some .local\/sc.names.lookup x=some .cell\/sc.names.lookup x=some .free
def IP (sc:Scope) (x:Str):Prop:=sc.names.lookup x=some .local\/sc.names.lookup x=some .cell
def NQ (env:Env) (h:Heap) (m:Str->Option Value) (x:Str) (u:Value):Prop:=
 (env.kindOf x=some .local/\m x=some u)\/((env.kindOf x=some .cell\/env.kindOf x=some .free)/\∃c,env.cells.lookup x=some c/\h.IsCell c (some u))
structure Cx.Ok (X:Cx):Prop where
 mod:Mod X.K X.mg X.base
 kind:X.env.scope.kind=.function
 glob:X.env.globals=mainGlobals
 blt:X.env.builtins=builtinsNs
 above:X.s₀.heap.objs.size<=X.env.locals
 inj:∀x y c,X.env.cells.lookup x=some c->X.env.cells.lookup y=some c->x=y
 has:∀x,(X.env.kindOf x=some .cell\/X.env.kindOf x=some .free)->∃c,X.env.cells.lookup x=some c
 cab:∀x c,X.fn x=true->X.env.cells.lookup x=some c->X.s₀.heap.objs.size<=c
 hd:X.calm=true->X.A.handled=none
 frames:X.A.frames=some X.stack
 stk:X.stack=X.outer\/(X.stack=X.env::X.outer/\X.env.frame=some X.env.locals)
 exf:∀b∈X.ex,b≠X.env.locals/\∀x c,X.env.cells.lookup x=some c->c≠b
 bs:∀b o,X.base.get? b=some o->X.s₀.heap.get? b=some o/\X.H₀ b=none
 bsz:X.base.objs.size<=X.s₀.heap.objs.size
 noex:∀b o,X.base.get? b=some o->b∉X.ex
 exfs:∀b∈X.ex,b∉X.fs
 funs:X.s₀.heap.FunFrames X.base X.outer
 frf:∀b∈X.fs,X.H₀ b=none
structure kC (X:Cx) (pins:List (Addr×Obj)) (σ:List (Option V)) (H:Hp) (s:Shared):Prop where
 ok:X.Ok
 os:s.os=X.s₀.os
 bare:AllBare s.gens
 base:Un X.fs X.ex X.H₀ H X.s₀.heap s.heap
 loc:∃m,s.heap.Ns X.env.locals m/\∀(i:Nat) (x:Str) (v:V),X.N[i]?=some x->σ[i]?=some (some v)->HP X.env.scope x->∃u,pC v u/\NQ X.env s.heap m x u
 cell:∀x c,X.env.cells.lookup x=some c->∃v,s.heap.IsCell c v
 free:H X.env.locals=none
 freeC:∀x c,X.env.cells.lookup x=some c->H c=none
 pin:∀p∈X.pn++pins,s.heap.get? p.1=some p.2/\H p.1=none/\p.1≠X.env.locals/\p.1∉X.fs/\∀v,p.2.data≠.cell v
 hok:jE X.prog X.w H s.heap
 len:σ.length=X.N.length
section
variable {X:Cx} {pins:List (Addr×Obj)} {σ:List (Option V)} {H H':Hp} {s:Shared} {h':Heap}
theorem Cx.Ok.nofr (ok:X.Ok) {b:Addr} {o:Obj} (e:X.base.get? b=some o):b∉X.fs:=λhb=>by
 have:=(ok.funs.mem hb).1;rw[e] at this;cases this
theorem kC.bs (I:kC X pins σ H s):∀b o,X.base.get? b=some o->s.heap.get? b=some o/\H b=none:=λb o e=>
 ⟨I.base.keep b o (I.ok.bs b o e).1 (I.ok.bs b o e).2 (I.ok.nofr e) (I.ok.noex b o e),I.base.free b o (I.ok.bs b o e).1 (I.ok.bs b o e).2 (I.ok.noex b o e)⟩
theorem kC.bk (I:kC X pins σ H s):∀b o,X.base.get? b=some o->s.heap.get? b=some o:=λb o e=>(I.bs b o e).1
theorem kC.mod (I:kC X pins σ H s):Mod X.K X.mg X.base:=I.ok.mod
theorem kC.kIn (I:kC X pins σ H s):X.K.In s.heap:=I.ok.mod.kin.keeps I.bk
theorem kC.fr (I:kC X pins σ H s):∃m,Fr X.base X.env.locals s.heap m:=
 let ⟨m,hn,_⟩:=I.loc
 ⟨m,hn,I.bk,dB I.ok.bsz I.ok.above⟩
theorem kC.lt (I:kC X pins σ H s):X.env.locals < s.heap.objs.size:=let ⟨_,hn,_⟩:=I.loc;hn.lt
theorem kC.sz (I:kC X pins σ H s):X.s₀.heap.objs.size<=s.heap.objs.size:=dB I.ok.above (Nat.le_of_lt I.lt)
theorem kC.nofs (I:kC X pins σ H s) {a:Addr} (h:s.heap.objs.size<=a):a∉X.fs:=λhb=>by
 obtain⟨_,o,ho,_⟩:=I.ok.funs.mem hb;exact absurd (KA (BA ho) (dB I.sz h)) (VB _)
theorem kC.cne (I:kC X pins σ H s):∀x c,X.env.cells.lookup x=some c->c≠X.env.locals:=λx c e z=>by
 obtain⟨v,o,ho,hd⟩:=I.cell x c e;obtain⟨m,⟨o',es,ep,ho',hd',_⟩,_⟩:=I.loc;rw[z,ho'] at ho;cases ho;rw[hd'] at hd;cases hd
theorem kC.funs (I:kC X pins σ H s):s.heap.FunFrames X.base X.outer:=by
 have all:∀(l:List Env),(∀b∈PD l,b∈X.fs)->X.s₀.heap.FunFrames X.base l->s.heap.FunFrames X.base l:=by
  intro l
  induction l with
  |nil=>intro _ _;trivial
  |cons env r ih=>
   intro hs hl;obtain⟨hk,⟨L,o,hf,hn,ho,hd⟩,hr⟩:=hl;have hL:L∈X.fs:=hs L (by unfold PD;rw[List.filterMap_cons,hf];exact qA);obtain⟨sl,e⟩:=I.base.slot L o ho (I.ok.frf L hL) hL λz=>I.ok.exfs L z hL;exact⟨hk,⟨L,_,hf,hn,e,hd⟩,ih (λb hb=>hs b (by unfold PD;rw[List.filterMap_cons,hf];exact xA _ hb)) hr⟩
 exact all X.outer (λο hb=>hb) I.ok.funs
theorem kC.stack (I:kC X pins σ H s):s.heap.FunFrames X.base X.stack:=by
 rcases I.ok.stk with e|⟨e,hf⟩
 ·rw[e];exact I.funs
 ·rw[e];obtain⟨m,hn,_⟩:=I.loc;refine .cons (by rw[I.ok.kind];decide) hf hn ?_ I.funs;exact Heap.get?_none_of_le (dB I.ok.bsz I.ok.above)
theorem kC.stkSub (I:kC X pins σ H s):∀b∈PD X.stack,b∈X.env.locals::X.fs:=λb hb=>by
 rcases I.ok.stk with e|⟨e,hf⟩
 ·rw[e] at hb;exact xA _ hb
 ·rw[e] at hb;unfold PD at hb;rw[List.filterMap_cons,hf] at hb;exact hb
theorem kC.stkFree (I:kC X pins σ H s):∀b∈PD X.stack,H b=none:=λb hb=>by
 rcases vA.mp (I.stkSub b hb) with e|hb
 ·rw[e];exact I.free
 ·obtain⟨_,o,ho,_⟩:=I.ok.funs.mem hb;exact I.base.free b o ho (I.ok.frf b hb) λz=>I.ok.exfs b z hb
theorem kC.step {g':Array GenState} {t':Nat} {d':Drawn} {ch:List Addr} (I:kC X pins σ H s)
  (hch:∀b∈ch,(b∈X.ex\/X.s₀.heap.objs.size<=b)/\b≠X.env.locals/\(∀x c,X.env.cells.lookup x=some c->c≠b)/\∀p∈X.pn++pins,p.1≠b)
  (keep:∀b o,b≠X.env.locals->b∉X.fs->b∉ch->s.heap.get? b=some o->H b=none->h'.get? b=some o)
  (slot:∀b o,b≠X.env.locals->b∈X.fs->b∉ch->s.heap.get? b=some o->H b=none->∃sl,h'.get? b=some {o with slots:=sl}) (free:∀b o,b∉ch->s.heap.get? b=some o->H b=none->H' b=none)
  (there:∀b o,b∉ch->s.heap.get? b=some o->∃o',h'.get? b=some o')
  (tups:∀b xs,H b=some (.tup xs)->H' b=some (.tup xs)) (frzs:∀b o u,H b=some (.frz o u)->H' b=some (.frz o u)) (tbls:∀b ps,H b=some (.tbl ps)->∃more,H' b=some (.tbl (ps++more)))
  (ns:∀m,s.heap.Ns X.env.locals m->h'.Ns X.env.locals m) (hok:jE X.prog X.w H' h') (hg:AllBare g'):
  kC X pins σ H' {s with heap:=h',gens:=g',drawn:=d',toks:=t'}:=by
 have neL:∀b o,X.s₀.heap.get? b=some o->b≠X.env.locals:=λb o e=>LA (KA (BA e) I.ok.above);have neC:∀b o,X.s₀.heap.get? b=some o->b∉X.ex->b∉ch:=λb o e hx hb=>by
  rcases (hch b hb).1 with z|z
  ·exact hx z
  ·exact absurd (KA (BA e) z) (VB _)
 have cellK:∀x c,X.env.cells.lookup x=some c->∀v,s.heap.IsCell c v->h'.IsCell c v:=λx c e v ⟨o,ho,hd⟩=>by
  have nch:c∉ch:=λz=>(hch c z).2.2.1 x c e rfl;by_cases hc:c∈X.fs
  ·obtain⟨sl,q⟩:=slot c o (I.cne x c e) hc nch ho (I.freeC x c e);exact⟨_,q,hd⟩
  ·exact⟨o,keep c o (I.cne x c e) hc nch ho (I.freeC x c e),hd⟩
 refine⟨I.ok,I.os,hg,⟨λb o e n hb hx=>?_,λb o e n hb hx=>?_,λb o e n hx=>?_,λb o e hx=>?_,λb xs e=>tups b xs (I.base.tups b xs e),λb o xs e=>frzs b o xs (I.base.frzs b o xs e),λb ps e=>?_⟩,?_,λx c e=>?_,?_,λx c e=>?_,λp hp=>?_,hok,I.len⟩
 ·exact keep b o (neL b o e) hb (neC b o e hx) (I.base.keep b o e n hb hx) (I.base.free b o e n hx)
 ·obtain⟨sl,e1⟩:=I.base.slot b o e n hb hx;obtain⟨sl',e2⟩:=slot b _ (neL b o e) hb (neC b o e hx) e1 (I.base.free b o e n hx);exact⟨sl',e2⟩
 ·obtain⟨o',e1⟩:=I.base.there b o e hx;exact free b o' (neC b o e hx) e1 (I.base.free b o e n hx)
 ·obtain⟨o',e1⟩:=I.base.there b o e hx;exact there b o' (neC b o e hx) e1
 ·obtain⟨m1,e1⟩:=I.base.tbls b ps e;obtain⟨m2,e2⟩:=tbls b _ e1;exact⟨m1++m2,by rw[e2,Array.append_assoc]⟩
 ·obtain⟨m,hn,hl⟩:=I.loc;refine⟨m,ns m hn,λi x v e1 e2 e3=>?_⟩;obtain⟨u,r,l⟩:=hl i x v e1 e2 e3;refine⟨u,r,?_⟩;rcases l with l|⟨k,c,e,z⟩
  ·exact .inl l
  ·exact .inr ⟨k,c,e,cellK x c e _ z⟩
 ·obtain⟨v,z⟩:=I.cell x c e;exact⟨v,cellK x c e v z⟩
 ·obtain⟨m,⟨o,_,_,ho,_⟩,_⟩:=I.loc;exact free _ o (λz=>(hch _ z).2.1 rfl) ho I.free
 ·obtain⟨v,o,ho,hd⟩:=I.cell x c e;exact free c o (λz=>(hch c z).2.2.1 x c e rfl) ho (I.freeC x c e)
 ·obtain⟨e,n,ne,nf,d⟩:=I.pin p hp;have nch:p.1∉ch:=λz=>(hch p.1 z).2.2.2 p hp rfl;exact⟨keep p.1 p.2 ne nf nch e n,free p.1 p.2 nch e n,ne,nf,d⟩
theorem kC.un {t':Nat} (I:kC X pins σ H s) (u:Un X.fs [] H H' s.heap h') (hok:jE X.prog X.w H' h'):kC X pins σ H' {s with heap:=h',toks:=t'}:=by
 obtain⟨m,⟨o,es,ep,ho,r⟩,_⟩:=id I.loc;obtain⟨sl,hL⟩:=u.any ho I.free (by simp);exact I.step (g':=s.gens) (d':=s.drawn) (ch:=[]) (λο z=>nomatch z) (λb o ο hb ο e n=>u.keep b o e n hb (by simp)) (λb o ο hb ο e n=>u.slot b o e n hb (by simp)) (λb o ο e n=>u.free b o e n (by simp)) (λb o ο e=>u.there b o e (by simp)) u.tups u.frzs u.tbls (λm' hm=>by
  obtain⟨o',es',ep',ho',r'⟩:=hm;rw[ho] at ho';cases ho';exact⟨_,es',ep',hL,r'⟩) hok I.bare
theorem kC.call {g':Array GenState} {t':Nat} {d':Drawn} {ch:List Addr} (I:kC X pins σ H s) (u:Un (PD X.stack) ch H H' s.heap h') (hok:jE X.prog X.w H' h') (hg:AllBare g')
  (hch:∀b∈ch,(b∈X.ex\/X.s₀.heap.objs.size<=b)/\b≠X.env.locals/\(∀x c,X.env.cells.lookup x=some c->c≠b)/\∀p∈X.pn++pins,p.1≠b):
  kC X pins σ H' {s with heap:=h',gens:=g',drawn:=d',toks:=t'}:=by
 obtain⟨m,⟨o,es,ep,ho,r⟩,_⟩:=id I.loc;obtain⟨sl,hL⟩:=u.any ho I.free λz=>(hch _ z).2.1 rfl;exact I.step (ch:=ch) hch (λb o hL hb hc e n=>u.keep b o e n (λz=>(vA.mp (I.stkSub b z)).elim hL hb) hc) (λb o ο ο hc e n=>u.any e n hc) (λb o hc e n=>u.free b o e n hc) (λb o hc e=>u.there b o e hc) u.tups u.frzs u.tbls (λm' hm=>by
  obtain⟨o',es',ep',ho',r'⟩:=hm;rw[ho] at ho';cases ho';exact⟨_,es',ep',hL,r'⟩) hok hg
theorem kC.turned {t':Nat} {it:Addr} (I:kC X pins σ H s) (k:∀b o,b≠it->s.heap.get? b=some o->h'.get? b=some o) (hn:H it=none) (hL:it≠X.env.locals)
  (h1:it∈X.ex\/X.s₀.heap.objs.size<=it) (h2:∀x c,X.env.cells.lookup x=some c->c≠it) (h3:∀p∈X.pn++pins,p.1≠it):kC X pins σ H {s with heap:=h',toks:=t'}:=by
 have nit:∀b u,H b=some u->b≠it:=λb u e z=>by rw[z,hn] at e;cases e
 refine I.step (g':=s.gens) (d':=s.drawn) (ch:=[it]) (λb hb=>?_) (λb o ο ο hc e ο=>k b o (λz=>hc (by simp[z])) e) (λb o ο ο hc e ο=>⟨o.slots,k b o (λz=>hc (by simp[z])) e⟩) (λο ο ο ο n=>n)
  (λb o hc e=>⟨o,k b o (λz=>hc (by simp[z])) e⟩) (λο ο e=>e) (λο ο ο e=>e) (λb ps e=>⟨#[],by rw[e];simp⟩) (λm hm=>?_) (λb u e=>?_) I.bare
 ·have e:b=it:=by simpa using hb
  subst e;exact⟨h1,hL,h2,h3⟩
 ·obtain⟨o,es,ep,ho,r⟩:=hm;exact⟨o,es,ep,k _ o (Ne.symm hL) ho,r⟩
 ·refine (I.hok b u e).stay (λc v hc q=>k c v ?_ q) (λο q=>q) λο ο q=>q;rcases hc with z|z
  ·rw[z];exact nit b u e
  ·exact nit c _ z
theorem kC.tok (I:kC X pins σ H s) (t:Nat):kC X pins σ H {s with toks:=t}:=I.un (h':=s.heap) (t':=t) Un.refl I.hok
theorem kC.kept {t':Nat} (I:kC X pins σ H s) (k:∀b u,s.heap.get? b=some u->h'.get? b=some u):kC X pins σ H {s with heap:=h',toks:=t'}:=I.un (Un.kept k) (I.hok.kept k)
theorem kC.laid {a:Addr} {o:HO} {t':Nat} (I:kC X pins σ H s) (k:∀b u,s.heap.get? b=some u->h'.get? b=some u) (hp:s.heap.objs.size<=a) (new:MC X.prog X.w (jC H a o) h' a o):
 kC X pins σ (jC H a o) {s with heap:=h',toks:=t'}:=I.un (Un.laid k hp (I.hok.fresh hp)) (I.hok.laid k hp new)
theorem kC.write {x e:Addr} {o:HO} {t':Nat} (I:kC X pins σ H s) (mu:bN (H x)) (he:e=x\/H e=some (.own x)) (k:∀b u,b≠e->s.heap.get? b=some u->h'.get? b=some u) (heo:∃u,h'.get? e=some u)
 (new:MC X.prog X.w (jC H x o) h' x o):kC X pins σ (jC H x o) {s with heap:=h',toks:=t'}:=I.un (Un.write mu he k heo) (I.hok.write mu he k heo new)
theorem kC.pins_of {pins':List (Addr×Obj)} (I:kC X pins σ H s) (h:∀p∈pins',s.heap.get? p.1=some p.2/\H p.1=none/\p.1≠X.env.locals/\p.1∉X.fs/\∀v,p.2.data≠.cell v):kC X pins' σ H s:=
 ⟨I.ok,I.os,I.bare,I.base,I.loc,I.cell,I.free,I.freeC,λp hp=>(dA.mp hp).elim (λz=>I.pin p (pA _ z)) (h p),I.hok,I.len⟩
theorem O1 {N:List Str} (hN:N.Nodup) {i j:Nat} {x:Str} (a:N[i]?=some x) (b:N[j]?=some x):i=j:=by
 obtain⟨h1,e1⟩:=IA.mp a;obtain⟨h2,e2⟩:=IA.mp b;exact (List.getElem_inj hN).mp (e1.trans e2.symm)
theorem P1 {M:Model} {A:Around} {E:Value->Shared->Prop} {i:Nat} {x:Str} {v:V} {u:Value} {Q:Unit->Shared->Prop} (I:kC X pins σ H s) (hN:X.N.Nodup) (hi:X.N[i]?=some x) (hx:IP X.env.scope x) (r:pC v u)
  (h:∀s',kC X pins (σ.set i (some v)) H s'->(∃a,Heap.SameBut a s.heap s'.heap/\(a=X.env.locals\/X.env.cells.lookup x=some a))->Q () s') (hf:X.fn x=true\/X.env.scope.names.lookup x=some .local:=by first|exact .inl rfl|exact .inr rfl|assumption):wpAny M A (storeName X.env x u) Q E s:=by
 obtain⟨m,hn,hl⟩:=id I.loc;have hcls:(X.env.scope.kind == .class || (X.env.scope.kind == .module&&X.env.locals != X.env.globals))=false:=by rw[I.ok.kind];rfl
 have hiσ:i < σ.length:=by rw[I.len];exact (IA.mp hi).1
 have cne:=I.cne;have tracked:∀{a:Addr} {h':Heap},(∃o,s.heap.get? a=some o/\H a=none)->Heap.SameBut a s.heap h'->jE X.prog X.w H h':=λ{a h'} ha hs b ob e=>by
  obtain⟨_,_,hfree⟩:=ha;refine (I.hok b ob e).stay (λc w' hc q=>(hs.2 c ?_).trans q) (λο q=>q) λο ο q=>q;rintro rfl;rcases hc with rfl|hc
  ·rw[hfree] at e;cases e
  ·rw[hfree] at hc;cases hc
 rcases hx with hk|hk
 ·refine wpAny_storeName_local hk hn (λh' hn' hs=>?_) hcls;obtain⟨oL,_,_,hoL,_⟩:=id hn;refine h _ ⟨I.ok,I.os,I.bare,⟨λb o e n hb hx=>?_,λb o e n hb hx=>?_,I.base.free,λb o e hx=>?_,I.base.tups,I.base.frzs,I.base.tbls⟩,⟨_,hn',λj y v' e1 e2 e3=>?_⟩,λy c e=>?_,I.free,I.freeC,λp hp=>?_,tracked ⟨oL,hoL,I.free⟩ hs,by simpa using I.len⟩ ⟨_,hs,.inl rfl⟩
  ·exact (hs.2 b (LA (KA (BA e) I.ok.above))).trans (I.base.keep b o e n hb hx)
  ·obtain⟨sl,e1⟩:=I.base.slot b o e n hb hx;exact⟨sl,(hs.2 b (LA (KA (BA e) I.ok.above))).trans e1⟩
  ·obtain⟨o',e1⟩:=I.base.there b o e hx;exact⟨o',(hs.2 b (LA (KA (BA e) I.ok.above))).trans e1⟩
  ·by_cases hj:j=i
   ·subst hj;rw[hi] at e1;cases e1;rw[List.getElem?_set_self hiσ] at e2;cases e2;exact⟨u,r,.inl ⟨hk,by simp⟩⟩
   ·rw[List.getElem?_set_ne (Ne.symm hj)] at e2;obtain⟨u',r',q⟩:=hl j y v' e1 e2 e3;refine⟨u',r',?_⟩;rcases q with ⟨k,e⟩|⟨k,c,e,z⟩
    ·refine .inl ⟨k,?_⟩;have:y≠x:=λe=>hj (O1 hN e1 (e ▸ hi));simp[this,e]
    ·exact .inr ⟨k,c,e,z.sameBut hs (cne y c e)⟩
  ·obtain⟨w',z⟩:=I.cell y c e;exact⟨w',z.sameBut hs (cne y c e)⟩
  ·obtain⟨e,n,ne,nf,d⟩:=I.pin p hp;exact⟨(hs.2 p.1 ne).trans e,n,ne,nf,d⟩
 ·have hfn:X.fn x=true:=by
   rcases hf with z|z
   ·exact z
   ·rw[z] at hk;cases hk
  obtain⟨c,hc⟩:=I.ok.has x (.inl hk);obtain⟨w',z⟩:=I.cell x c hc;refine wpAny_storeName_cell I.ok.kind hk hc z (λh' hc' hs=>?_);obtain⟨oc,hoc,hocd⟩:=id z;refine h {s with heap:=h'} ⟨I.ok,I.os,I.bare,⟨λb o e n hb hx=>?_,λb o e n hb hx=>?_,I.base.free,λb o e hx=>?_,I.base.tups,I.base.frzs,I.base.tbls⟩,⟨m,hn.sameBut hs (Ne.symm (cne x c hc)),λj y v' e1 e2 e3=>?_⟩,λy c' e=>?_,I.free,I.freeC,λp hp=>?_,tracked ⟨oc,hoc,I.freeC x c hc⟩ hs,by simpa using I.len⟩ ⟨c,hs,.inr hc⟩
  ·exact (hs.2 b (LA (KA (BA e) (I.ok.cab x c hfn hc)))).trans (I.base.keep b o e n hb hx)
  ·obtain⟨sl,e1⟩:=I.base.slot b o e n hb hx;exact⟨sl,(hs.2 b (LA (KA (BA e) (I.ok.cab x c hfn hc)))).trans e1⟩
  ·obtain⟨o',e1⟩:=I.base.there b o e hx;exact⟨o',(hs.2 b (LA (KA (BA e) (I.ok.cab x c hfn hc)))).trans e1⟩
  ·by_cases hj:j=i
   ·subst hj;rw[hi] at e1;cases e1;rw[List.getElem?_set_self hiσ] at e2;cases e2;exact⟨u,r,.inr ⟨.inl hk,c,hc,hc'⟩⟩
   ·rw[List.getElem?_set_ne (Ne.symm hj)] at e2;obtain⟨u',r',q⟩:=hl j y v' e1 e2 e3;refine⟨u',r',?_⟩;rcases q with q|⟨k,c',e,z'⟩
    ·exact .inl q
    ·refine .inr ⟨k,c',e,z'.sameBut hs ?_⟩;rintro rfl;exact hj (O1 hN e1 (I.ok.inj _ _ _ e hc ▸ hi))
  ·by_cases hcc:c'=c
   ·subst hcc;exact⟨_,hc'⟩
   ·obtain⟨w2,z2⟩:=I.cell y c' e;exact⟨w2,z2.sameBut hs hcc⟩
  ·obtain⟨e,n,ne,nf,d⟩:=I.pin p hp;refine⟨(hs.2 p.1 ?_).trans e,n,ne,nf,d⟩;intro q;rw[q,hoc] at e;have q':oc=p.2:=rA e;exact d w' (by rw[<-q'];exact hocd)
theorem Q1 {M:Model} {A:Around} {E:Value->Shared->Prop} {i:Nat} {x:Str} {v:V} {u:Value} {Q:Unit->Shared->Prop} (I:kC X pins σ H s) (hN:X.N.Nodup) (hi:X.N[i]?=some x) (hx:IP X.env.scope x) (r:pC v u)
  (h:∀s',kC X pins (σ.set i (some v)) H s'->Q () s') (hf:X.fn x=true\/X.env.scope.names.lookup x=some .local:=by first|exact .inl rfl|exact .inr rfl|assumption):wpAny M A (storeName X.env x u) Q E s:=
 P1 I hN hi hx r (λs' I' ο=>h s' I') hf
theorem kC.call' {s':Shared} {ch:List Addr} (I:kC X pins σ H s) (ho:s'.os=s.os) (u:Un (PD X.stack) ch H H' s.heap s'.heap) (hok:jE X.prog X.w H' s'.heap) (hg:AllBare s'.gens)
  (hch:∀b∈ch,(b∈X.ex\/X.s₀.heap.objs.size<=b)/\b≠X.env.locals/\(∀x c,X.env.cells.lookup x=some c->c≠b)/\∀p∈X.pn++pins,p.1≠b):kC X pins σ H' s':=by
 obtain⟨h',g',d',t',o'⟩:=s';have e:o'=s.os:=ho;subst e;exact I.call (g':=g') (t':=t') (d':=d') u hok hg hch
end
noncomputable abbrev XK:=Value->Option Addr->Hp->Prop
noncomputable abbrev St:=List (Option V)
noncomputable abbrev VK:=V->Hp->Prop
noncomputable abbrev TE:=St->Hp->VK->Prop
noncomputable abbrev TT:=St->Hp->(Bool->Hp->Prop)->Prop
noncomputable abbrev TA:=St->Hp->(List V->Hp->Prop)->Prop
set_option genInjectivity false in
structure eE where
 nx:St->Hp->Prop
 rt:VK
 bk:St->Hp->Prop:=λο ο=>False
 ct:St->Hp->Prop:=λο ο=>False
noncomputable abbrev TS:=eE->St->Hp->Prop
def EP (X:Cx) (pins:List (Addr×Obj)) (σ:St) (Q:VK) (u:Value) (s':Shared):Prop:=∃v H',kC X pins σ H' s'/\pC v u/\Q v H'
def TP (X:Cx) (pins:List (Addr×Obj)) (σ:St) (Q:Bool->Hp->Prop) (b:Bool) (s':Shared):Prop:=∃H',kC X pins σ H' s'/\Q b H'
def AP (X:Cx) (pins:List (Addr×Obj)) (σ:St) (Q:List V->Hp->Prop) (us:List Value) (s':Shared):Prop:=∃vs H',kC X pins σ H' s'/\sC vs us/\Q vs H'
def SP (X:Cx) (pins:List (Addr×Obj)) (D:eE) (f:Flow) (s':Shared):Prop:=
 match f with
 |.next=>∃σ' H',kC X pins σ' H' s'/\D.nx σ' H'
 |.brk=>∃σ' H',kC X pins σ' H' s'/\D.bk σ' H'
 |.cont=>∃σ' H',kC X pins σ' H' s'/\D.ct σ' H'
 |.ret u=>∃v σ' H',kC X pins σ' H' s'/\pC v u/\D.rt v H'
def PE (X:Cx) (e:Expr) (t:TE):Prop:=
 ∀(pins:List (Addr×Obj)) (s:Shared) (σ:St) (H:Hp) (Q:VK),kC X pins σ H s->t σ H Q->wpAny (model X.prog X.w) X.A (eval e X.env) (EP X pins σ Q) X.xe s
def PT (X:Cx) (e:Expr) (t:TT):Prop:=
 ∀(pins:List (Addr×Obj)) (s:Shared) (σ:St) (H:Hp) (Q:Bool->Hp->Prop),kC X pins σ H s->t σ H Q->wpAny (model X.prog X.w) X.A (isTrue e X.env (eval e X.env)) (TP X pins σ Q) X.xe s
def PW (X:Cx) (e:Expr) (t:TT):Prop:=
 ∀(mF:Sem Value) (pins:List (Addr×Obj)) (s:Shared) (σ:St) (H:Hp) (Q:Bool->Hp->Prop),kC X pins σ H s->t σ H Q->wpAny (model X.prog X.w) X.A (isTrue e X.env mF) (TP X pins σ Q) X.xe s
theorem PW.pt {X:Cx} {e:Expr} {t:TT} (h:PW X e t):PT X e t:=h _
def PA (X:Cx) (es:List Expr) (t:TA):Prop:=
 ∀(pos:Pos) (pins:List (Addr×Obj)) (s:Shared) (σ:St) (H:Hp) (Q:List V->Hp->Prop),kC X pins σ H s->t σ H Q->wpAny (model X.prog X.w) X.A (spliced (backTo pos (starEach es X.env))) (AP X pins σ Q) X.xe s
def PS (X:Cx) (st:Stmt) (t:TS):Prop:=
 ∀(pins:List (Addr×Obj)) (s:Shared) (σ:St) (H:Hp) (D:eE),kC X pins σ H s->t D σ H->wpAny (model X.prog X.w) X.A (exec st X.env) (SP X pins D) X.xe s
def YF (X:Cx) (st:List Stmt) (t:TS):Prop:=
 ∀(pins:List (Addr×Obj)) (s:Shared) (σ:St) (H:Hp) (D:eE),kC X pins σ H s->t D σ H->wpAny (model X.prog X.w) X.A (execs st X.env) (SP X pins D) X.xe s
theorem KC {α:Type} {t:Sem α} {Q Q':α->Shared->Prop} {M:Model} {A:Around} {E:Value->Shared->Prop} {s:Shared} (h:wpAny M A t Q E s) (hQ:∀a s,Q a s->Q' a s):wpAny M A t Q' E s:=mB h hQ λο ο x=>x
end L2
namespace L2
open PySem PySem.Spec PyProof.Rows
section
variable {X:Cx}
def xI (i:Nat):TE:=λσ H Q=>∃v,σ[i]?=some (some v)/\Q v H
def tC (v:V):TE:=λο H Q=>Q v H
theorem S1 {i:Nat} {x:Str} {pos:Pos} (hN:X.N[i]?=some x) (hv:HP X.env.scope x) (hd:(x == ("__debug__":Str))=false:=by decide) (hcd:(x == ("__classdict__":Str))=false:=by decide):PE X (.Name x pos) (xI i):=by
 intro pins s σ H Q I h;obtain⟨v,e,h⟩:=h;obtain⟨m,hn,hl⟩:=I.loc;obtain⟨u,r,l⟩:=hl i x v hN e hv;have fin:EP X pins σ Q u s:=⟨v,H,I,r,h⟩
 rcases l with ⟨hk,hm⟩|⟨hk,c,hc,hcell⟩
 ·exact wpAny_Name (wpAny_loadName_local I.ok.kind hk hn hm fin) hd
 ·rcases hk with hk|hk
  ·exact wpAny_Name (wpAny_loadName_cell I.ok.kind hk hc hcell fin) hd
  ·exact wpAny_Name (wpAny_loadName_free I.ok.kind hk hc hcell fin hcd) hd
theorem yC {i j pos}:PE X (.Constant (.int i) j pos) (tC (.int i)):=λο ο ο H ο I h=>wpAny_Constant_int ⟨.int i,H,I.tok _,⟨_,rfl⟩,h⟩
theorem zM {b j pos}:PE X (.Constant (.bool b) j pos) (tC (.bl b)):=λο ο ο H ο I h=>Constant_bool ⟨.bl b,H,I,rfl,h⟩
theorem ZF {j pos}:PE X (.Constant .none j pos) (tC .non):=λο ο ο H ο I h=>Constant_none ⟨.non,H,I,rfl,h⟩
theorem LG {x j pos}:PE X (.Constant (.str x) j pos) (tC (.str x)):=λο ο ο H ο I h=>Calls.Constant_str ⟨.str x,H,I.tok _,⟨_,rfl⟩,h⟩
def Gl (X:Cx) (x:Str):Prop:=X.env.kindOf x=some .globalImplicit
theorem cN {E:Value->Shared->Prop} {pins:List (Addr×Obj)} {s:Shared} {σ:St} {H:Hp} {x:Str} {u:Value} {pos:Pos} {Q:Value->Shared->Prop} (I:kC X pins σ H s) (hg:Gl X x) (hm:X.mg x=some u) (h:Q u s)
  (hd:(x == ("__debug__":Str))=false:=by decide):wpAny (model X.prog X.w) X.A (eval (.Name x pos) X.env) Q E s:=
 Calls.Name_function_global I.ok.kind hg (Calls.loadGlobal_global (by rw[I.ok.glob];exact I.mod.glob.keeps I.bk) hm h) hd
theorem AM {E:Value->Shared->Prop} {pins:List (Addr×Obj)} {s:Shared} {σ:St} {H:Hp} {x:Str} {u:Value} {pos:Pos} {Q:Value->Shared->Prop} (I:kC X pins σ H s) (hg:Gl X x) (hm:X.mg x=none) (hv:bootBuiltins x=some u) (h:Q u s)
  (hn:x≠"__name__":=by decide) (hd:(x == ("__debug__":Str))=false:=by decide):wpAny (model X.prog X.w) X.A (eval (.Name x pos) X.env) Q E s:=by
 obtain⟨mb,h1,h2⟩:=I.mod.blt;exact Calls.Name_function_global I.ok.kind hg (Calls.loadGlobal_builtin (by rw[I.ok.glob];exact I.mod.glob.keeps I.bk) hm (by rw[I.ok.blt];exact h1.keeps I.bk) ((h2 x hn).trans hv) h) hd
theorem gb {x:Str} {v:V} {u:Value} {pos:Pos} (hg:Gl X x) (hm:X.mg x=some u) (r:pC v u) (hd:(x == ("__debug__":Str))=false:=by decide):PE X (.Name x pos) (tC v):=
 λο ο ο H ο I h=>cN I hg hm ⟨v,H,I,r,h⟩ hd
theorem jb {x:Str} {v:V} {u:Value} {pos:Pos} (hg:Gl X x) (hm:X.mg x=none) (hv:bootBuiltins x=some u) (r:pC v u) (hn:x≠"__name__":=by decide) (hd:(x == ("__debug__":Str))=false:=by decide):PE X (.Name x pos) (tC v):=
 λο ο ο H ο I h=>AM I hg hm hv ⟨v,H,I,r,h⟩ hn hd
variable {a b:Expr} {ta tb:TE} {pos:Pos}
def PC (X:Cx) (op:CmpOp) (a b:Expr) (t:TE):Prop:=
 ∀(pins:List (Addr×Obj)) (s:Shared) (σ:St) (H:Hp) (Q:VK),kC X pins σ H s->t σ H Q->
  wpAny (model X.prog X.w) X.A (eval a X.env) (λv s₁=>wpAny (model X.prog X.w) X.A (eval b X.env) (λu s₂=>wpAny (model X.prog X.w) X.A (compareOp op v u) (EP X pins σ Q) X.xe s₂) X.xe s₁) X.xe s
theorem qH (b:Expr) {op:CmpOp} (h:op≠.In) (h2:op≠.NotIn):behindInMarks op b=false:=by
 have e1:(op == CmpOp.In)=false:=by cases op<;>first|rfl|exact absurd rfl h
 have e2:(op == CmpOp.NotIn)=false:=by cases op<;>first|rfl|exact absurd rfl h2
 cases b<;>simp[behindInMarks,e1,e2]
def tB (t:TE):TT:=λσ H Q=>t σ H λx H1=>∃c,x=.bl c/\Q c H1
theorem bJ {op:CmpOp} {t:TE} (h:PC X op a b t) (h1:behindInMarks op b=false:=by first|exact qH _ (by decide) (by decide)|rfl):PT X (.Compare a [op] [b] pos) (tB t):=by
 intro pins s σ H Q I hw;refine wpAny_isTrue_Compare1 (KC (h pins s σ H _ I hw) λv s1 h1=>KC h1 λu s2 h2=>KC h2 λc s3 zz=>?_) h1;obtain⟨x,H1,I1,r1,q1⟩:=zz;obtain⟨d,rfl,q⟩:=q1;cases r1;exact wpAny_truthy_bool ⟨H1,I1,q⟩
theorem XG {e:Expr} {t:TE} (h:PE X e t) (he:∀mF,isTrue e X.env mF=(do let v<-mF;standAt e.pos;holding [v] (truthy v)):=by intro _;rfl):PT X e (tB t):=by
 intro pins s σ H Q I hw;refine isTrue_plain (KC (h pins s σ H _ I hw) λv s1 ⟨x,H1,I1,r1,q1⟩=>?_) (he _);obtain⟨d,rfl,q⟩:=q1;cases r1;exact wpAny_truthy_bool ⟨H1,I1,q⟩
variable {tA tB':TT} {rest:List Expr}
def dN (t u:TT):TT:=λσ H Q=>t σ H λc H1=>if c=true then u σ H1 Q else Q false H1
def T1 (t u:TT):TT:=λσ H Q=>t σ H λc H1=>if c=true then Q true H1 else u σ H1 Q
def fN (t:TT):TT:=λσ H Q=>t σ H λc H1=>Q (!c) H1
theorem JP (ha:PT X a tA):PW X (.BoolOp .And [a] pos) tA:=by
 intro wh pins s σ H Q I h;refine isTrue_and (KC (ha pins s σ H Q I h) λc s1 e=>?_);cases c with
 |true=>exact isTrue_and_nil e
 |false=>exact e
theorem zK (ha:PT X a tA):PW X (.BoolOp .Or [a] pos) tA:=by
 intro wh pins s σ H Q I h;refine isTrue_or (KC (ha pins s σ H Q I h) λc s1 e=>?_);cases c with
 |false=>exact isTrue_or_nil e
 |true=>exact e
theorem KP (ha:PT X a tA) (hb:PW X (.BoolOp .And (b::rest) pos) tB'):PW X (.BoolOp .And (a::b::rest) pos) (dN tA tB'):=by
 intro wh pins s σ H Q I h;refine isTrue_and (KC (ha pins s σ H _ I h) λc s1 zz=>?_);obtain⟨H1,I1,q1⟩:=zz;cases c with
 |true=>exact hb wh pins s1 σ H1 Q I1 q1
 |false=>exact⟨H1,I1,q1⟩
theorem gN (ha:PT X a tA) (hb:PW X (.BoolOp .Or (b::rest) pos) tB'):PW X (.BoolOp .Or (a::b::rest) pos) (T1 tA tB'):=by
 intro wh pins s σ H Q I h;refine isTrue_or (KC (ha pins s σ H _ I h) λc s1 zz=>?_);obtain⟨H1,I1,q1⟩:=zz;cases c with
 |true=>exact⟨H1,I1,q1⟩
 |false=>exact hb wh pins s1 σ H1 Q I1 q1
theorem iH (ha:PT X a tA):PT X (.UnaryOp .Not a pos) (fN tA):=by
 intro pins s σ H Q I h;exact isTrue_not (ha pins s σ H (λc H1=>Q (!c) H1) I h)
def cJ (ta tb:TE):TE:=λσ H Q=>ta σ H λx H1=>∃c,x=.bl c/\if c=true then tb σ H1 Q else Q (.bl false) H1
def dJ (ta:TE):TE:=λσ H Q=>ta σ H λx H1=>∃c,x=.bl c/\Q (.bl (!c)) H1
theorem BM {op} {t:TE} (h:PE X a t):PE X (.BoolOp op [a] pos) t:=λpins s σ H Q I hw=>BoolOp_one (h pins s σ H Q I hw)
theorem yI (ha:PE X a ta) (hb:PE X (.BoolOp .And (b::rest) pos) tb):PE X (.BoolOp .And (a::b::rest) pos) (cJ ta tb):=by
 intro pins s σ H Q I h;refine BoolOp_and (KC (ha pins s σ H _ I h) λv s1 zz=>?_);obtain⟨x,H1,I1,r1,q1⟩:=zz;obtain⟨c,rfl,q1⟩:=q1;cases r1;refine wpAny_truthy_bool ?_;cases c with
 |true=>exact hb pins s1 σ H1 Q I1 q1
 |false=>exact⟨.bl false,H1,I1,rfl,q1⟩
theorem U1 (ha:PE X a ta):PE X (.UnaryOp .Not a pos) (dJ ta):=by
 intro pins s σ H Q I h;refine UnaryOp_ (KC (ha pins s σ H _ I h) λv s1 zz=>?_);obtain⟨x,H1,I1,r1,q1⟩:=zz;obtain⟨c,rfl,q1⟩:=q1;cases r1;exact not_of (wpAny_truthy_bool ⟨.bl (!c),H1,I1,rfl,q1⟩)
def V1 (t:TT) (ta tb:TE):TE:=λσ H Q=>t σ H λc H1=>if c=true then ta σ H1 Q else tb σ H1 Q
theorem CM {c:Expr} (hc:PT X c tA) (ha:PE X a ta) (hb:PE X b tb):PE X (.IfExp c a b pos) (V1 tA ta tb):=by
 intro pins s σ H Q I h;refine wpAny_IfExp (KC (hc pins s σ H _ I h) λd s1 zz=>?_);obtain⟨H1,I1,q1⟩:=zz;cases d with
 |true=>exact ha pins s1 σ H1 Q I1 q1
 |false=>exact hb pins s1 σ H1 Q I1 q1
end
end L2
namespace L2
open PySem PySem.Spec PyProof.Rows
def QC (K:PySem.W.Frag) (H:Hp) (a:Addr) (xs:List V):Prop:=
 Rd H a (.lst xs)\/
  ∃(o:Obj) (its:Array Value) (n:Nat),K.lookup a=some o/\o.cls=.type "list"/\o.dict=none/\o.data=.seq its n/\its.size<=sizeLine/\sC xs its.toList
def ZC (K:PySem.W.Frag) (H:Hp) (a:Addr) (xs:List V):Prop:=
 Rd H a (.tup xs)\/
  ∃(o:Obj) (its:Array Value) (n:Nat),K.lookup a=some o/\o.cls=.type "tuple"/\o.data=.seq its n/\its.size<=sizeLine/\sC xs its.toList
def OQ:Value->Option V
 |.none=>some .non
 |.bool b=>some (.bl b)
 |.int i _=>some (.int i)
 |.str x _=>some (.str x)
 |.bytes b _=>some (.byt b)
 |.float b _=>some (.flt b)
 |.ref a=>some (.ref a)
 |.type n=>some (.ty n)
 |_=>none
theorem pC.abs {x:V} {u:Value} (r:pC x u):OQ u=some x:=by
 cases x with
 |non=>cases r;rfl
 |bl _=>cases r;rfl
 |int _=>obtain⟨t,rfl⟩:=r;rfl
 |str _=>obtain⟨t,rfl⟩:=r;rfl
 |byt _=>obtain⟨t,rfl⟩:=r;rfl
 |flt _=>obtain⟨t,rfl⟩:=r;rfl
 |ref _=>cases r;rfl
 |ty _=>cases r;rfl
theorem pC.inj {x y:V} {u:Value} (r:pC x u) (q:pC y u):x=y:=rA (r.abs.symm.trans q.abs)
theorem sC.inj:∀{xs ys:List V} {us:List Value},sC xs us->sC ys us->xs=ys
 |_,_,_,.nil,.nil=>rfl
 |_,_,_,.cons r t,.cons r' t'=>by rw[r.inj r',sC.inj t t']
section
variable {X:Cx} {pins:List (Addr×Obj)} {σ:St} {H:Hp} {s:Shared} {a:Addr} {xs ys:List V}
theorem QC.of {K:PySem.W.Frag} (h:H a=some (.lst xs)):QC K H a xs:=.inl (.inl h)
theorem ZC.of {K:PySem.W.Frag} (h:H a=some (.tup xs)):ZC K H a xs:=.inl (.inl h)
theorem kC.list (I:kC X pins σ H s) (h:QC X.K H a xs):∃its:List Value,sC xs its/\PlainL s.heap a its.toArray/\xs.length<=sizeLine:=by
 rcases h with h|⟨o,its,n,hk,hc,hd,hs,hz,r⟩
 ·obtain⟨z,its,n,r,e⟩:=h.ok I.hok;exact⟨its,r,⟨_,n,e,rfl,rfl,rfl⟩,z⟩
 ·refine⟨its.toList,r,⟨o,n,I.kIn a o hk,hc,hd,by simpa using hs⟩,?_⟩;have e:=r.length;simp only[PB] at e;omega
theorem kC.tuple (I:kC X pins σ H s) (h:ZC X.K H a xs):∃its:List Value,sC xs its/\IsTup s.heap a its.toArray/\xs.length<=sizeLine:=by
 rcases h with h|⟨o,its,n,hk,hc,hs,hz,r⟩
 ·obtain⟨z,its,r,p⟩:=h.ok I.hok;exact⟨its,r,p,z⟩
 ·refine⟨its.toList,r,⟨o,I.kIn a o hk,hc,n,by simpa using hs⟩,?_⟩;have e:=r.length;simp only[PB] at e;omega
theorem kC.list_inj (I:kC X pins σ H s) (h:QC X.K H a xs) (h':QC X.K H a ys):xs=ys:=by
 obtain⟨its,r,⟨o,n,e,_,_,d⟩,_⟩:=I.list h;obtain⟨its',r',⟨o',n',e',_,_,d'⟩,_⟩:=I.list h';rw[e] at e';cases e';rw[d] at d';injection d' with d1 _;have:its=its':=by simpa using congrArg Array.toList d1
 subst this;exact r.inj r'
theorem kC.tuple_inj (I:kC X pins σ H s) (h:ZC X.K H a xs) (h':ZC X.K H a ys):xs=ys:=by
 obtain⟨its,r,⟨o,e,_,n,d⟩,_⟩:=I.tuple h;obtain⟨its',r',⟨o',e',_,n',d'⟩,_⟩:=I.tuple h';rw[e] at e';cases e';rw[d] at d';injection d' with d1 _;have:its=its':=by simpa using congrArg Array.toList d1
 subst this;exact r.inj r'
end
noncomputable abbrev Cx.wish (X:Cx) (E:Value->Shared->Prop):Cx:={X with xe:=E}
noncomputable abbrev Cx.nox (X:Cx):Cx:=X.wish λο ο=>False
theorem Cx.Ok.wish {X:Cx} (ok:X.Ok) (E:Value->Shared->Prop):(X.wish E).Ok:=
 ⟨ok.mod,ok.kind,ok.glob,ok.blt,ok.above,ok.inj,ok.has,ok.cab,ok.hd,ok.frames,ok.stk,ok.exf,ok.bs,ok.bsz,ok.noex,ok.exfs,ok.funs,ok.frf⟩
theorem Cx.Ok.unwish {X:Cx} {E:Value->Shared->Prop} (ok:(X.wish E).Ok):X.Ok:=
 ⟨ok.mod,ok.kind,ok.glob,ok.blt,ok.above,ok.inj,ok.has,ok.cab,ok.hd,ok.frames,ok.stk,ok.exf,ok.bs,ok.bsz,ok.noex,ok.exfs,ok.funs,ok.frf⟩
section
variable {X:Cx} {pins:List (Addr×Obj)} {σ:St} {H:Hp} {s:Shared} {E:Value->Shared->Prop}
theorem kC.wish (I:kC X pins σ H s) (E:Value->Shared->Prop):kC (X.wish E) pins σ H s:=⟨I.ok.wish E,I.os,I.bare,I.base,I.loc,I.cell,I.free,I.freeC,I.pin,I.hok,I.len⟩
theorem kC.unwish (I:kC (X.wish E) pins σ H s):kC X pins σ H s:=⟨I.ok.unwish,I.os,I.bare,I.base,I.loc,I.cell,I.free,I.freeC,I.pin,I.hok,I.len⟩
theorem SP.unwish {D:eE} {f:Flow} {s':Shared} (h:SP (X.wish E) pins D f s'):SP X pins D f s':=by
 cases f with
 |next=>obtain⟨σ',H',I,q⟩:=h;exact⟨σ',H',I.unwish,q⟩
 |brk=>obtain⟨σ',H',I,q⟩:=h;exact⟨σ',H',I.unwish,q⟩
 |cont=>obtain⟨σ',H',I,q⟩:=h;exact⟨σ',H',I.unwish,q⟩
 |ret u=>obtain⟨v,σ',H',I,r,q⟩:=h;exact⟨v,σ',H',I.unwish,r,q⟩
theorem PE.nox {e:Expr} {t:TE} (h:PE X.nox e t):PE X e t:=λpins s σ H Q I hw=>
 mB (h pins s σ H Q (I.wish _) hw) (λ_ _ ⟨v,H',I',r,q⟩=>⟨v,H',I'.unwish,r,q⟩) λο ο z=>False.elim z
theorem PT.nox {e:Expr} {t:TT} (h:PT X.nox e t):PT X e t:=λpins s σ H Q I hw=>
 mB (h pins s σ H Q (I.wish _) hw) (λ_ _ ⟨H',I',q⟩=>⟨H',I'.unwish,q⟩) λο ο z=>False.elim z
theorem YF.nox {st:List Stmt} {t:TS} (h:YF X.nox st t):YF X st t:=λpins s σ H D I hw=>
 mB (h pins s σ H D (I.wish _) hw) (λο ο q=>q.unwish) λο ο z=>False.elim z
end
section
variable {X:Cx} {st:Stmt} {rest:List Stmt} {t u:TS} {e:Expr} {te:TE} {pos:Pos}
def tNext:TS:=λD σ H=>D.nx σ H
def iN (t u:TS):TS:=λD σ H=>t {D with nx:=u D} σ H
theorem kE:YF X [] tNext:=λο ο σ H ο I h=>wpAny_execs_nil ⟨σ,H,I,h⟩
theorem CC (h1:PS X st t) (h2:YF X rest u):YF X (st::rest) (iN t u):=by
 intro pins s σ H D I h;refine wpAny_execs_cons (KC (h1 pins s σ H {D with nx:=u D} I h) λf s1 q=>?_);cases f with
 |next=>
  obtain⟨σ',H',I',q⟩:=q;exact h2 pins s1 σ' H' D I' q
 |ret v=>exact q
 |brk=>exact q
 |cont=>exact q
theorem FC (h1:PS X st t):YF X [st] t:=by
 intro pins s σ H D I h;refine wpAny_execs_cons (KC (h1 pins s σ H D I h) λf s1 q=>?_);cases f with
 |next=>exact wpAny_execs_nil q
 |ret v=>exact q
 |brk=>exact q
 |cont=>exact q
theorem kC.quiet {pins:List (Addr×Obj)} {σ:St} {H:Hp} {s:Shared} (I:kC X pins σ H s):interactive X.env=false:=by simp[interactive,I.ok.kind]
def eJ (te:TE):TS:=λD σ H=>te σ H λο H1=>D.nx σ H1
theorem GE (he:PE X e te) (hs:swapsWith e none pos.line X.env=pure false:=by rfl):PS X (.Expr e pos) (eJ te):=by
 intro pins s σ H D I h;exact wpAny_Expr_any (KC (he pins s σ H _ I h) λv s1 ⟨x,H1,I1,r1,q1⟩=>⟨σ,H1,I1,q1⟩) I.quiet hs
def jN (te:TE):TS:=λD σ H=>te σ H D.rt
theorem uD (he:PE X e te):PS X (.Return (some e) pos) (jN te):=by
 intro pins s σ H D I h;exact wpAny_Return_some (KC (he pins s σ H _ I h) λv s1 ⟨x,H1,I1,r1,q1⟩=>⟨x,σ,H1,I1,r1,q1⟩)
def tRetN:TS:=λD ο H=>D.rt .non H
theorem kb:PS X (.Return none pos) tRetN:=λο ο σ H ο I h=>wpAny_Return_none ⟨.non,σ,H,I,rfl,h⟩
def kN (c:TT) (t u:TS):TS:=λD σ H=>c σ H λb H1=>if b=true then t D σ H1 else u D σ H1
theorem hE {c:Expr} {a b:List Stmt} {tc:TT} (hc:PT X c tc) (ha:YF X a t) (hb:YF X b u):PS X (.If c a b pos) (kN tc t u):=by
 intro pins s σ H D I h;refine wpAny_If (KC (hc pins s σ H _ I h) λd s1 zz=>?_);obtain⟨H1,I1,q1⟩:=zz;cases d with
 |true=>exact ha pins s1 σ H1 D I1 q1
 |false=>exact hb pins s1 σ H1 D I1 q1
end
noncomputable abbrev TG:=V->St->Hp->(St->Hp->Prop)->Prop
noncomputable abbrev TGs:=List V->St->Hp->(St->Hp->Prop)->Prop
def PG (X:Cx) (target:Expr) (t:TG):Prop:=
 ∀(pins:List (Addr×Obj)) (s:Shared) (σ:St) (H:Hp) (v:V) (u:Value) (Q:St->Hp->Prop),kC X pins σ H s->pC v u->t v σ H Q->
  wpAny (model X.prog X.w) X.A (assign target X.env u) (λο s'=>∃σ' H',kC X pins σ' H' s'/\Q σ' H') X.xe s
def lN (X:Cx) (ts:List Expr) (t:TGs):Prop:=
 ∀(pins:List (Addr×Obj)) (s:Shared) (σ:St) (H:Hp) (vs:List V) (us:List Value) (Q:St->Hp->Prop),kC X pins σ H s->sC vs us->t vs σ H Q->
  wpAny (model X.prog X.w) X.A (assignInOrder ((assignEach ts X.env).map (·.2)) us) (λο s'=>∃σ' H',kC X pins σ' H' s'/\Q σ' H') X.xe s
noncomputable abbrev TSet:=V->V->V->Hp->(Hp->Prop)->Prop
def nN (X:Cx) (t:TSet):Prop:=
 ∀(pins:List (Addr×Obj)) (s:Shared) (σ:St) (H:Hp) (o i v:V) (ov iv u:Value) (Q:Hp->Prop),kC X pins σ H s->pC o ov->pC i iv->pC v u->t o i v H Q->
  wpAny (model X.prog X.w) X.A (setItem ov iv u) (λο s'=>∃H',kC X pins σ H' s'/\Q H') X.xe s
section
variable {X:Cx} {pos:Pos}
def MG (i:Nat):TG:=λv σ H Q=>Q (σ.set i (some v)) H
theorem wF {i:Nat} {x:Str} (hN:X.N.Nodup) (hi:X.N[i]?=some x) (hx:IP X.env.scope x) (hf:X.fn x=true\/X.env.scope.names.lookup x=some .local:=by first|exact .inl rfl|exact .inr rfl|assumption):PG X (.Name x pos) (MG i):=by
 intro pins s σ H v u Q I r h;exact wpAny_assign_Name (Q1 I hN hi hx r (λs' I'=>⟨_,H,I',h⟩) hf)
def gNil:TGs:=λvs σ H Q=>vs=[]/\Q σ H
def fJ (t:TG) (u:TGs):TGs:=λvs σ H Q=>∃v r,vs=v::r/\t v σ H λσ' H'=>u r σ' H' Q
theorem W1:lN X [] gNil:=by
 intro pins s σ H vs us Q I r h;obtain⟨e,h⟩:=h;subst e;cases r;exact assignInOrder_nil ⟨σ,H,I,h⟩
theorem pN {e:Expr} {es:List Expr} {t:TG} {u:TGs} (h1:PG X e t) (h2:lN X es u)
  (hs:(assignEach (e::es) X.env).map (·.2)=assign e X.env::(assignEach es X.env).map (·.2):=by rfl):lN X (e::es) (fJ t u):=by
 intro pins s σ H vs us Q I r h;obtain⟨v,vr,e1,h⟩:=h;subst e1;cases r with
 |cons r rr=>
  rw[hs];refine assignInOrder_cons (KC (h1 pins s σ H _ _ _ I r h) λ_ s1 zz=>?_);obtain⟨σ1,H1,I1,q1⟩:=zz;exact h2 pins s1 σ1 H1 _ _ Q I1 rr q1
def AK (K:PySem.W.Frag) (n:Nat) (t:TGs):TG:=λv σ H Q=>∃a xs,v=.ref a/\ZC K H a xs/\xs.length=n/\t xs σ H Q
theorem X1 {es:List Expr} {k:Nat} {t:TGs} {n:Nat} (hc:X.calm=true) (h:lN X es t)
  (hn:(assignEach es X.env).length=n:=by rfl) (hst:(assignEach es X.env).findIdx? (·.1)=none:=by rfl):PG X (.Tuple es k pos) (AK X.K n t):=by
 intro pins s σ H v u Q I r hw;obtain⟨a,xs,e1,hq,hl,hw⟩:=hw;subst e1;cases r;obtain⟨its,rv,ht,hz⟩:=I.tuple hq;refine assign_Tuple_tuple (I.ok.hd hc) ht (by simp[hn,<-hl,rv.length]) hst λh' hx=>?_;have I1:kC X pins σ H {s with heap:=h'}:=I.kept (t':=s.toks) λb o e=>hx b o (LA (BA e)) e;exact h pins _ σ H xs _ Q I1 (by simpa using rv) hw
def qN (to ti:TE) (t:TSet):TG:=λv σ H Q=>to σ H λo H1=>ti σ H1 λi H2=>t o i v H2 λH3=>Q σ H3
theorem Y1 {o i:Expr} {to ti:TE} {t:TSet} (ho:PE X o to) (hi:PE X i ti) (hs:nN X t)
  (ha:∀v,assign (.Subscript o i pos) X.env v=(do
   let ov<-holding [v] (eval o X.env)
   let iv<-holding [v,ov] (eval i X.env)
   standAt pos
   holding [v,ov,iv] (setItem ov iv v)
   release [v,ov,iv] []):=by intro _;rfl):PG X (.Subscript o i pos) (qN to ti t):=by
 intro pins s σ H v u Q I r h;rw[ha];refine jA (wpAny_holding (KC (ho pins s σ H _ I h) λov s1 zz=>?_));obtain⟨x,H1,I1,r1,q1⟩:=zz;refine jA (wpAny_holding (KC (hi pins s1 σ H1 _ I1 q1) λiv s2 zz=>?_));obtain⟨y,H2,I2,r2,q2⟩:=zz;refine jA (wpAny_standAt (jA (wpAny_holding (KC (hs pins s2 σ H2 x y v ov iv u _ I2 r1 r2 r q2) λ_ s3 zz=>?_))));obtain⟨H3,I3,q3⟩:=zz;exact wpAny_release ⟨σ,H3,I3,q3⟩
def zI (te:TE) (g:TG):TS:=λD σ H=>te σ H λx H1=>g x σ H1 D.nx
theorem Z1 {tg e:Expr} {te:TE} {g:TG} (he:PE X e te) (hg:PG X tg g) (hs:swapsWithSole [tg] e pos.line X.env=pure false:=by rfl) (hw:swappedStores [tg] e X.env=pure none:=by rfl)
  (h1:(assignEach [tg] X.env).map (·.2)=[assign tg X.env]:=by rfl):PS X (.Assign [tg] e pos) (zI te g):=by
 intro pins s σ H D I h;refine wpAny_Assign_stores (KC (he pins s σ H _ I h) λv s1 zz=>?_) hs hw;obtain⟨x,H1,I1,r1,q1⟩:=zz;rw[h1];exact KC (hg pins s1 σ H1 x v _ I1 r1 q1) λο s2 q=>q
theorem iD {i:Nat} {x:Str} {e:Expr} {te:TE} {pos':Pos} (hN:X.N.Nodup) (hi:X.N[i]?=some x) (hx:IP X.env.scope x) (he:PE X e te) (hs:swapsWith e (some (.Name x pos')) pos.line X.env=pure false:=by rfl) (hf:X.fn x=true\/X.env.scope.names.lookup x=some .local:=by first|exact .inl rfl|exact .inr rfl|assumption):
  PS X (.Assign [.Name x pos'] e pos) (zI te (MG i)):=by
 intro pins s σ H D I h;refine wpAny_Assign_Name (KC (he pins s σ H _ I h) λv s1 zz=>?_) hs;obtain⟨y,H1,I1,r1,q1⟩:=zz;exact Q1 I1 hN hi hx r1 (λs2 I2=>⟨_,H1,I2,q1⟩) hf
end
section
variable {X:Cx} {pos:Pos}
def rH (c:TT) (tb:TS):TS:=λD σ H=>∃W:Nat->St->Hp->Prop,(∃m,W m σ H)/\∀m σ H,W m σ H->
 c σ H λb H1=>if b=true then ∃N:St->Hp->Prop,(∀σ' H',N σ' H'->∃m',m' < m/\W m' σ' H')/\tb {D with nx:=N,ct:=N,bk:=D.nx} σ H1 else D.nx σ H1
theorem qb {c:Expr} {body:List Stmt} {tc:TT} {tb:TS} (hp:PassesOwn (model X.prog X.w) X.A X.env X.xe) (hc:PT X c tc) (hb:YF X body tb):PS X (.While c body [] pos) (rH tc tb):=by
 intro pins s σ H D I h;obtain⟨W,⟨m0,w0⟩,turn⟩:=h;refine wpAny_While (codeAny_whileLoop (λn s'=>∃σ' H',kC X pins σ' H' s'/\W n σ' H') ?_ m0 ⟨σ,H,I,w0⟩);rintro n s1 ⟨σ1,H1,I1,w1⟩;refine wpAny_passesOwn hp (KC (hc pins s1 σ1 H1 _ I1 (turn n σ1 H1 w1)) λb s2 zz=>?_);obtain⟨H2,I2,q2⟩:=zz;cases b with
 |true=>
  obtain⟨N,hN,q2⟩:=q2;rw[iA rfl];refine wpAny_passesOwn hp (KC (hb pins s2 σ1 H2 _ I2 q2) λf s3 q3=>?_);cases f with
  |next=>
   obtain⟨σ3,H3,I3,n3⟩:=q3;obtain⟨m',hm,w3⟩:=hN σ3 H3 n3;exact⟨m',hm,σ3,H3,I3,w3⟩
  |cont=>
   obtain⟨σ3,H3,I3,n3⟩:=q3;obtain⟨m',hm,w3⟩:=hN σ3 H3 n3;exact⟨m',hm,σ3,H3,I3,w3⟩
  |brk=>exact q3
  |ret v=>exact q3
 |false=>
  rw[fA wA];exact wpAny_execs_nil ⟨σ1,H2,I2,q2⟩
end
set_option genInjectivity false in
structure It where
 go:Nat->Hp->Prop
 yld:Nat->Hp->V->Hp->Prop
 stop:Nat->Hp->Prop
def XD (X:Cx) (pins:List (Addr×Obj)) (H:Hp) (b:Addr):Prop:=
 H b=none/\b≠X.env.locals/\b∉X.fs/\(b∈X.ex\/X.s₀.heap.objs.size<=b)/\(∀x c,X.env.cells.lookup x=some c->c≠b)/\∀p∈X.pn++pins,p.1≠b
theorem kC.fpOk {X:Cx} {pins:List (Addr×Obj)} {σ:St} {H H':Hp} {s:Shared} {b:Addr} (I:kC X pins σ H s) (hb:s.heap.objs.size<=b) (hn:H' b=none):XD X pins H' b:=by
 refine⟨hn,Nat.ne_of_gt (KA I.lt hb),I.nofs hb,.inr (dB I.sz hb),λx c e z=>?_,λp hp z=>?_⟩
 ·obtain⟨v,q⟩:=I.cell x c e;exact absurd (KA q.lt (by rw[z];exact hb)) (VB _)
 ·exact absurd (KA (BA (I.pin p hp).1) (by rw[z];exact hb)) (VB _)
structure KF (P:Program) (w:World) (K:PySem.W.Frag) (tg:Expr) (J:It) (fp:List Addr) (it:Addr) (tn:Nat->Heap->Prop):Prop where
 mem:it∈fp
 obj:∀i h,tn i h->∀b∈fp,∃o,h.get? b=some o/\∀v,o.data≠.cell v
 keep:∀i h h',tn i h->(∀b∈fp,∀o,h.get? b=some o->h'.get? b=some o)->tn i h'
 item:∀(X:Cx),X.prog=P->X.w=w->X.K=K->X.calm=true->∀(i:Nat) (pins:List (Addr×Obj)) (s:Shared) (σ:St) (H:Hp) (E:Value->Shared->Prop),kC X pins σ H s->(∀b∈fp,XD X pins H b)->tn i s.heap->J.go i H->
  wpAny (model P w) X.A (pyNext (.ref it)) (λr s1=>∃u,r=some u/\
   wpAny (model P w) X.A (letOwnedTupleGo tg (.ref it) u) (λο s2=>∃x H',kC X pins σ H' s2/\pC x u/\J.yld i H x H'/\tn (i+1) s2.heap/\∀b∈fp,H' b=none) E s1) E s
 done:∀(X:Cx),X.prog=P->X.w=w->X.K=K->X.calm=true->∀(i:Nat) (pins:List (Addr×Obj)) (s:Shared) (σ:St) (H:Hp) (E:Value->Shared->Prop),kC X pins σ H s->(∀b∈fp,XD X pins H b)->tn i s.heap->J.stop i H->
  wpAny (model P w) X.A (pyNext (.ref it)) (λr s1=>r=none/\kC X pins σ H s1) E s
 self:∀(A:Around) (i:Nat) (s:Shared) (Q:Value->Shared->Prop) (E:Value->Shared->Prop),tn i s.heap->Q (.ref it) s->wpAny (model P w) A (pyIter (.ref it)) Q E s
noncomputable abbrev TI:=St->Hp->(It->Hp->Prop)->Prop
def N2 (X:Cx) (pins:List (Addr×Obj)) (σ:St) (tg:Expr) (R:It->Hp->Prop) (itv:Value) (s2:Shared):Prop:=
 ∃(it:Addr) (fp:List Addr) (tn:Nat->Heap->Prop) (J:It) (H':Hp),itv=.ref it/\kC X pins σ H' s2/\KF X.prog X.w X.K tg J fp it tn/\tn 0 s2.heap/\(∀b∈fp,XD X pins H' b)/\R J H'
def PI (X:Cx) (tg iter:Expr) (wi:TI):Prop:=
 ∀(pins:List (Addr×Obj)) (s:Shared) (σ:St) (H:Hp) (R:It->Hp->Prop),kC X pins σ H s->wi σ H R->
  wpAny (model X.prog X.w) X.A (eval iter X.env) (λv s1=>wpAny (model X.prog X.w) X.A (pyIter v) (N2 X pins σ tg R) X.xe s1) X.xe s
theorem LP {M : Model} {A : Around} {E : Value -> Shared -> Prop} {s : Shared} {tg : Expr} {it : Addr} {u : Value} {o : Obj} {n : String} {vs : Array Value} {Q : Unit -> Shared -> Prop} (ho : s.heap.get? it = some o) (hc : o.cls = .type n) (hd : o.data = .fields vs)
    (hn : ["enumerate", "zip", "dict_itemiterator", "dict_reverseitemiterator", "odict_iterator", "itertools.zip_longest", "itertools.pairwise"].contains n = false) (hQ : Q () s) : wpAny M A (letOwnedTupleGo tg (.ref it) u) Q E s := by
  unfold letOwnedTupleGo;cases tg <;> first
    | exact EA hQ
    | (cases u <;> first
        | exact EA hQ
        | (refine jA (wpAny_load ho ?_)
           rw [hc, hd];show wpAny M A (if (["enumerate", "zip", "dict_itemiterator", "dict_reverseitemiterator", "odict_iterator", "itertools.zip_longest", "itertools.pairwise"].contains n && vs[0]? == some (rawInt _)) = true then _ else _) Q E s;rw [fA (by intro h; rw [hn, Bool.false_and] at h; cases h)];exact EA hQ))
def BK (K:PySem.W.Frag) (a:Addr):It:=
 ⟨λi H=>∃xs x,QC K H a xs/\xs[i]?=some x,λi H x H'=>H'=H/\∀xs,QC K H a xs->xs[i]?=some x,λi H=>∃xs,QC K H a xs/\xs.length<=i⟩
def AI (lo:Int) (n:Nat):It:=⟨λi ο=>i < n,λi H x H'=>H'=H/\x=.int (lo+i),λi ο=>n<=i⟩
theorem rb {P:Program} {w:World} {K:PySem.W.Frag} {tg:Expr} (a it:Addr):KF P w K tg (BK K a) [it] it (λi h=>h.IsListIter it a i) where
 mem:=by simp
 obj:=λi h st b hb=>by
  have e:b=it:=by simpa using hb
  subst e;obtain⟨o,e,c,d⟩:=st;exact⟨o,e,λv z=>by rw[d] at z;cases z⟩
 keep:=λi h h' st k=>st.at λo e=>k it (by simp) o e
 item:=by
  intro X hP hw hK hc i pins s σ H E I hf st hg;subst hP hw hK;obtain⟨xs,x,hq,hx⟩:=hg;obtain⟨its,rv,p,hz⟩:=I.list hq;obtain⟨u,hu,ru⟩:=rv.get hx;obtain⟨f0,f1,f2,f3,f4,f5⟩:=hf it (by simp);refine wpAny_pyNext_list_item st p.isList (x:=u) (by simpa using hu) λh' st' sb=>?_;have I1:kC X pins σ H {s with heap:=h'}:=I.turned (t':=s.toks) (λb o hb e=>(sb.2 b hb).trans e) f0 f1 f3 f4 f5;obtain⟨o,e,c,d⟩:=id st';exact⟨u,rfl,LP (s:={s with heap:=h'}) e c d (by decide) ⟨x,H,I1,ru,⟨rfl,λys hy=>by rw[I.list_inj hy hq];exact hx⟩,st',λb hb=>(hf b hb).1⟩⟩
 done:=by
  intro X hP hw hK hc i pins s σ H E I hf st hg;subst hP hw hK;obtain⟨xs,hq,hx⟩:=hg;obtain⟨its,rv,p,hz⟩:=I.list hq;obtain⟨f0,f1,f2,f3,f4,f5⟩:=hf it (by simp);have hl:=rv.length;exact wpAny_pyNext_list_end (I.ok.hd hc) st p.isList (by simp;omega) λh' eb=>⟨rfl,I.turned (t':=s.toks) (λb o hb e=>eb b o hb e) f0 f1 f3 f4 f5⟩
 self:=λο ο ο ο ο st h=>wpAny_pyIter_listiter st h
theorem ub {P:Program} {w:World} {K:PySem.W.Frag} {tg:Expr} (it:Addr) (lo:Int) (n:Nat):KF P w K tg (AI lo n) [it] it (λi h=>IsRangeIter h it (lo+(i:Nat) * 1) ((n:Int) - (i:Nat)) 1) where
 mem:=by simp
 obj:=λi h st b hb=>by
  have e:b=it:=by simpa using hb
  subst e;exact⟨_,st,λv z=>by
   have z':Data.fields _=Data.cell v:=z;cases z'⟩
 keep:=λi h h' st k=>k it (by simp) _ st
 item:=by
  intro X hP hw hK hc i pins s σ H E I hf st hg;subst hP hw hK;obtain⟨f0,f1,f2,f3,f4,f5⟩:=hf it (by simp);have W:=Walks.range (prog:=X.prog) (w:=X.w) (I.ok.hd hc) it lo 1 n;refine W.item i s _ _ hg st λv h' tk hv st' kk=>?_;obtain⟨t,rfl⟩:=hv;have I1:kC X pins σ H {s with heap:=h',toks:=tk}:=I.turned (λb o hb e=>kk b o (by simpa using hb) e) f0 f1 f3 f4 f5;refine⟨_,rfl,LP (s:={s with heap:=h',toks:=tk}) (n:="range_iterator") st' rfl rfl (by decide) ⟨.int (lo+i),H,I1,⟨t,?_⟩,⟨rfl,rfl⟩,st',λb hb=>(hf b hb).1⟩⟩;rw[Int.mul_one]
 done:=by
  intro X hP hw hK hc i pins s σ H E I hf st hg;subst hP hw hK;obtain⟨f0,f1,f2,f3,f4,f5⟩:=hf it (by simp);exact wpAny_pyNext_range_end (I.ok.hd hc) st (by have:n<=i:=hg;omega) λh' eb=>⟨rfl,I.turned (t':=s.toks) (λb o hb e=>eb b o hb e) f0 f1 f3 f4 f5⟩
 self:=λο ο ο ο ο st h=>wpAny_pyIter_rangeiter st h
end L2
namespace L2
open PySem PySem.Spec PyProof.Rows
section
variable {X:Cx} {tg:Expr}
def gJ (K:PySem.W.Frag) (tl:TE):TI:=λσ H R=>tl σ H λx H1=>∃a,x=.ref a/\(∃xs,QC K H1 a xs)/\R (BK K a) H1
theorem BI {l:Expr} {tl:TE} (hl:PE X l tl):PI X tg l (gJ X.K tl):=by
 intro pins s σ H R I h;refine KC (hl pins s σ H _ I h) λv s1 zz=>?_;obtain⟨x,H1,I1,r1,q1⟩:=zz;obtain⟨a,e,⟨xs,hq⟩,q⟩:=q1;subst e;cases r1;obtain⟨its,rv,p,hz⟩:=I1.list hq;refine wpAny_pyIter_list p.isList ?_;refine⟨s1.heap.objs.size,[s1.heap.objs.size],_,_,H1,rfl,I1.kept (t':=s1.toks) λb o e=>uA _ e,rb a _,⟨_,FA _ rfl,rfl,rfl⟩,λb hb=>?_,q⟩;have e:b=s1.heap.objs.size:=by simpa using hb
 subst e;exact I1.fpOk (kA _) (I1.hok.fresh (kA _))
theorem O2 {pins:List (Addr×Obj)} {σ:St} {H:Hp} {s:Shared} {R:It->Hp->Prop} {E:Value->Shared->Prop} {lo hi:Int} {t u v:Tok} {tk:Nat} (I:kC X pins σ H s) (h1: -(2 ^ 62)<=lo) (h2:lo < 2 ^ 62) (h3: -(2 ^ 62)<=hi) (h4:hi < 2 ^ 62)
  (q:R (AI lo (hi - lo).toNat) H):wpAny (model X.prog X.w) X.A (pyIter (.ref s.heap.objs.size)) (N2 X pins σ tg R) E {s with heap:=s.heap.push {cls:=.type "range",data:=.fields #[.int lo t,.int hi u,.int 1 v]},toks:=tk}:=by
 refine wpAny_pyIter_range (IsRange.new ..) (small_one h1 h2 h3 h4) ?_;have I1:kC X pins σ H {s with heap:=s.heap.push {cls:=.type "range",data:=.fields #[.int lo t,.int hi u,.int 1 v]},toks:=tk}:=I.kept λb o e=>uA _ e;refine⟨(s.heap.push {cls:=.type "range",data:=.fields #[.int lo t,.int hi u,.int 1 v]}).objs.size,[(s.heap.push {cls:=.type "range",data:=.fields #[.int lo t,.int hi u,.int 1 v]}).objs.size],_,_,H,rfl,
  I1.kept (t':=tk) λb o e=>uA _ e,ub _ lo (hi - lo).toNat,?_,λb hb=>?_,q⟩
 ·have e1:lo+((0:Nat):Int) * 1=lo:=by simp
  have e2:(((hi - lo).toNat:Nat):Int) - ((0:Nat):Int)=Builtin.Range.rangeSize lo hi 1:=by rw[rangeSize_one];split<;>omega
  show IsRangeIter _ _ (lo+((0:Nat):Int) * 1) ((((hi - lo).toNat:Nat):Int) - ((0:Nat):Int)) 1;rw[e1,e2];exact FA _ rfl
 ·have e:b=(s.heap.push {cls:=.type "range",data:=.fields #[.int lo t,.int hi u,.int 1 v]}).objs.size:=by simpa using hb
  subst e;exact I1.fpOk (kA _) (I1.hok.fresh (kA _))
def hJ (ta:TA):TI:=λσ H R=>ta σ H λvs H1=>∃j:Int,vs=[.int j]/\ -(2 ^ 62)<=j/\j < 2 ^ 62/\R (AI 0 j.toNat) H1
def iJ (ta:TA):TI:=λσ H R=>ta σ H λvs H1=>∃i j:Int,vs=[.int i,.int j]/\(-(2 ^ 62)<=i/\i < 2 ^ 62/\ -(2 ^ 62)<=j/\j < 2 ^ 62)/\R (AI i (j - i).toNat) H1
theorem PQ {a:Expr} {ta:TA} {p pos:Pos} (hg:Gl X "range") (hm:X.mg "range"=none) (ha:PA X [a] ta) (hs:starEach [a] X.env=[(false,eval a X.env)]:=by rfl):PI X tg (.Call (.Name "range" p) [a] [] pos) (hJ ta):=by
 intro pins s σ H R I h;refine Call_ (AM I hg hm boot_range (UB (KC (ha pos pins s σ H _ I h) λus s1 zz=>?_) hs rfl));obtain⟨vs,H1,I1,r1,q1⟩:=zz;obtain⟨j,e,q1,q2,q⟩:=q1;subst e;cases r1 with
 |cons r rr=>
  cases rr;obtain⟨t,rfl⟩:=r;exact call_range_1 (O2 I1 ⋯ ⋯ q1 q2 (by simpa using q))
theorem wb {a b:Expr} {ta:TA} {p pos:Pos} (hg:Gl X "range") (hm:X.mg "range"=none) (ha:PA X [a,b] ta) (hs:starEach [a,b] X.env=[(false,eval a X.env),(false,eval b X.env)]:=by rfl) (hs2:starEach [b] X.env=[(false,eval b X.env)]:=by rfl):
  PI X tg (.Call (.Name "range" p) [a,b] [] pos) (iJ ta):=by
 intro pins s σ H R I h;refine Call_ (AM I hg hm boot_range (UB (KC (ha pos pins s σ H _ I h) λus s1 ⟨vs,H1,I1,r1,q1⟩=>?_) (by rw[hs,hs2]) (by rw[hs2];rfl)));obtain⟨i,j,e,⟨q1,q2,q3,q4⟩,q⟩:=q1;subst e;cases r1 with
 |cons r rr=>
  cases rr with
  |cons r' rr=>
   cases rr;obtain⟨t,rfl⟩:=r;obtain⟨t',rfl⟩:=r';exact call_range_2 (O2 I1 q1 q2 q3 q4 q)
def QQ (wi:TI) (g:TG) (tb:TS):TS:=λD σ H=>wi σ H λJ H1=>∃W:Nat->Nat->St->Hp->Prop,(∃m,W 0 m σ H1)/\∀i m σ H,W i m σ H->
 (J.stop i H/\D.nx σ H)\/(J.go i H/\∃N:St->Hp->Prop,(∀σ' H',N σ' H'->∃m',m' < m/\W (i+1) m' σ' H')/\∀x H',J.yld i H x H'->g x σ H' λσ2 H2=>tb {D with nx:=N,ct:=N,bk:=D.nx} σ2 H2)
def LF (fp:List Addr) (h:Heap):List (Addr×Obj):=fp.filterMap λb=>(h.get? b).map λo=>(b,o)
theorem dI {fp:List Addr} {h:Heap} {b:Addr} {o:Obj} (hb:b∈fp) (e:h.get? b=some o):(b,o)∈LF fp h:=List.mem_filterMap.mpr ⟨b,hb,by rw[e];rfl⟩
theorem xb {fp:List Addr} {h:Heap} {p:Addr×Obj} (hp:p∈LF fp h):p.1∈fp/\h.get? p.1=some p.2:=by
 obtain⟨b,hb,e⟩:=List.mem_filterMap.mp hp;cases q:h.get? b with
 |none=>rw[q] at e;cases e
 |some o=>
  rw[q] at e;have e':(b,o)=p:=rA e;subst e';exact⟨hb,q⟩
theorem kC.pinned {pins:List (Addr×Obj)} {σ:St} {H:Hp} {s:Shared} {fp:List Addr} (I:kC X pins σ H s) (hf:∀b∈fp,XD X pins H b) (ho:∀b∈fp,∃o,s.heap.get? b=some o/\∀v,o.data≠.cell v):kC X (pins++LF fp s.heap) σ H s:=
 I.pins_of λp hp=>(dA.mp hp).elim (λz=>I.pin p (eA _ z)) λz=>by
  obtain⟨hb,e⟩:=xb z;obtain⟨f0,f1,f2,_⟩:=hf p.1 hb;obtain⟨o,e',d⟩:=ho p.1 hb;rw[e] at e';cases e';exact⟨e,f0,f1,f2,d⟩
theorem kC.unpinned {pins pl:List (Addr×Obj)} {σ:St} {H:Hp} {s:Shared} (I:kC X (pins++pl) σ H s):kC X pins σ H s:=I.pins_of λp hp=>I.pin p (eA _ (pA _ hp))
theorem CK {iter:Expr} {body:List Stmt} {wi:TI} {g:TG} {tb:TS} {pos:Pos} (hp:PassesOwn (model X.prog X.w) X.A X.env X.xe) (hc:X.calm=true) (hi:PI X tg iter wi) (hg:PG X tg g) (hb:YF X body tb)
  (hs:∀x,foldedSetIterable iter X.env x=pure x:=by intro _;rfl):PS X (.For tg iter body [] pos) (QQ wi g tb):=by
 intro pins s σ H D I h;refine wpAny_For (KC (hi pins s σ H _ I h) λv s1 h1=>KC h1 λitv s2 h2=>?_) hs;obtain⟨it,fp,tn,J,H2,e,I2,T,st2,f2,W,⟨m0,w0⟩,turn⟩:=h2;subst e;have stat:∀{H':Hp},(∀b∈fp,H' b=none)->∀b∈fp,XD X pins H' b:=λhn b hb=>⟨hn b hb,(f2 b hb).2⟩
 refine codeAny_forLoop_any (λn s'=>∃i σ' H',kC X pins σ' H' s'/\tn i s'.heap/\(∀b∈fp,H' b=none)/\W i n σ' H') ?_ m0 ⟨0,σ,H2,I2,st2,λb hb=>(f2 b hb).1,w0⟩;rintro n s3 ⟨i,σ3,H3,I3,st3,fr3,w3⟩;rcases turn i n σ3 H3 w3 with ⟨stop,qn⟩|⟨go,N,hN,step⟩
 ·refine wpAny_passesOwn hp (KC (T.done X rfl rfl rfl hc i pins s3 σ3 H3 X.xe I3 (stat fr3) st3 stop) λr s4 zz=>?_);obtain⟨hr,I4⟩:=zz;subst hr;exact wpAny_execs_nil ⟨σ3,H3,I4,qn⟩
 ·refine wpAny_passesOwn hp (KC (T.item X rfl rfl rfl hc i pins s3 σ3 H3 X.xe I3 (stat fr3) st3 go) λr s4 zz=>?_);obtain⟨u,hr,h4⟩:=zz;subst hr;refine wpAny_passesOwn hp (KC h4 λ_ s5 zz=>?_);obtain⟨x,H5,I5,r5,y5,st5,fr5⟩:=zz;have I5':=I5.pinned (stat fr5) (T.obj _ _ st5);refine wpAny_passesOwn hp (KC (hg _ s5 σ3 H5 x u _ I5' r5 (step x H5 y5)) λ_ s6 zz=>?_);obtain⟨σ6,H6,I6,q6⟩:=zz;refine wpAny_passesOwn hp (KC (hb _ s6 σ6 H6 _ I6 q6) λf s7 q7=>?_);have again:∀{σ7:St} {H7:Hp},kC X (pins++LF fp s5.heap) σ7 H7 s7->N σ7 H7->∃m,m < n/\∃i σ' H',kC X pins σ' H' s7/\tn i s7.heap/\(∀b∈fp,H' b=none)/\W i m σ' H':=λ{σ7 H7} I7 n7=>by
   obtain⟨m',hm,w7⟩:=hN σ7 H7 n7;refine⟨m',hm,i+1,σ7,H7,I7.unpinned,T.keep _ _ _ st5 λb hb o e=>(I7.pin (b,o) (eA _ (eA _ (dI hb e)))).1,λb hb=>?_,w7⟩;obtain⟨o,e,d⟩:=T.obj _ _ st5 b hb;exact (I7.pin (b,o) (eA _ (eA _ (dI hb e)))).2.1
  cases f with
  |next=>obtain⟨σ7,H7,I7,n7⟩:=q7;exact again I7 n7
  |cont=>obtain⟨σ7,H7,I7,n7⟩:=q7;exact again I7 n7
  |brk=>obtain⟨σ7,H7,I7,q7⟩:=q7;exact⟨σ7,H7,I7.unpinned,q7⟩
  |ret v=>obtain⟨x7,σ7,H7,I7,r7,q7⟩:=q7;exact⟨x7,σ7,H7,I7.unpinned,r7,q7⟩
end
theorem yb {K:PySem.W.Frag} {a:Addr} {xs:List V} {g:TG} {tb:TS} {D:eE} {σ:St} {H:Hp} (Pv:Nat->St->Hp->Prop) (h0:Pv 0 σ H) (hl:∀i σ H,i<=xs.length->Pv i σ H->QC K H a xs)
  (hs:∀i x σ H,xs[i]?=some x->Pv i σ H->g x σ H λσ2 H2=>tb {D with nx:=Pv (i+1),ct:=Pv (i+1),bk:=D.nx} σ2 H2) (hd:∀σ H,Pv xs.length σ H->D.nx σ H):
  ∃W:Nat->Nat->St->Hp->Prop,(∃m,W 0 m σ H)/\∀i m σ H,W i m σ H->
   ((BK K a).stop i H/\D.nx σ H)\/((BK K a).go i H/\∃N:St->Hp->Prop,(∀σ' H',N σ' H'->∃m',m' < m/\W (i+1) m' σ' H')/\∀x H',(BK K a).yld i H x H'->g x σ H' λσ2 H2=>tb {D with nx:=N,ct:=N,bk:=D.nx} σ2 H2):=by
 refine⟨λi m σ H=>m=xs.length - i/\i<=xs.length/\Pv i σ H,⟨xs.length,by simp,aC _,h0⟩,?_⟩;rintro i m σ H ⟨rfl,hi,p⟩;have q:=hl i σ H hi p;by_cases hlt:i < xs.length
 ·refine .inr ⟨⟨xs,xs[i],q,by simp[hlt]⟩,Pv (i+1),λσ' H' p'=>⟨xs.length - (i+1),⋯,rfl,hlt,p'⟩,λx H' y=>?_⟩;obtain⟨e,y⟩:=y;subst e;exact hs i x σ _ (y xs q) p
 ·have e:i=xs.length:=⋯;subst e;exact .inl ⟨⟨xs,q,kA _⟩,hd σ H p⟩
theorem zb {lo:Int} {n:Nat} {g:TG} {tb:TS} {D:eE} {σ:St} {H:Hp} (Pv:Nat->St->Hp->Prop) (h0:Pv 0 σ H)
  (hs:∀i σ H,i < n->Pv i σ H->g (.int (lo+i)) σ H λσ2 H2=>tb {D with nx:=Pv (i+1),ct:=Pv (i+1),bk:=D.nx} σ2 H2) (hd:∀σ H,Pv n σ H->D.nx σ H):
  ∃W:Nat->Nat->St->Hp->Prop,(∃m,W 0 m σ H)/\∀i m σ H,W i m σ H->
   ((AI lo n).stop i H/\D.nx σ H)\/((AI lo n).go i H/\∃N:St->Hp->Prop,(∀σ' H',N σ' H'->∃m',m' < m/\W (i+1) m' σ' H')/\∀x H',(AI lo n).yld i H x H'->g x σ H' λσ2 H2=>tb {D with nx:=N,ct:=N,bk:=D.nx} σ2 H2):=by
 refine⟨λi m σ H=>m=n - i/\i<=n/\Pv i σ H,⟨n,by simp,aC _,h0⟩,?_⟩;rintro i m σ H ⟨rfl,hi,p⟩;by_cases hlt:i < n
 ·refine .inr ⟨hlt,Pv (i+1),λσ' H' p'=>⟨n - (i+1),⋯,rfl,hlt,p'⟩,λx H' y=>?_⟩;obtain⟨e,y⟩:=y;subst e y;exact hs i σ _ hlt p
 ·have e:i=n:=⋯;subst e;exact .inl ⟨kA _,hd σ H p⟩
end L2
namespace L2
open PySem PySem.Spec PyProof.Rows
noncomputable abbrev R2:=V->V->Hp->VK->Prop
def HE (X:Cx) (f:Value->Value->Sem Value) (r:R2):Prop:=
 ∀(pins:List (Addr×Obj)) (s:Shared) (σ:St) (H:Hp) (x y:V) (v u:Value) (Q:VK),kC X pins σ H s->pC x v->pC y u->r x y H Q->
  wpAny (model X.prog X.w) X.A (f v u) (EP X pins σ Q) X.xe s
def P2 (X:Cx) (f:Value->Sem Value) (r:V->Hp->VK->Prop):Prop:=
 ∀(pins:List (Addr×Obj)) (s:Shared) (σ:St) (H:Hp) (x:V) (v:Value) (Q:VK),kC X pins σ H s->pC x v->r x H Q->
  wpAny (model X.prog X.w) X.A (f v) (EP X pins σ Q) X.xe s
def QD (X:Cx) (f:Value) (r:List V->Hp->VK->Prop):Prop:=
 ∀(pins:List (Addr×Obj)) (s:Shared) (σ:St) (H:Hp) (xs:List V) (us:List Value) (Q:VK),kC X pins σ H s->sC xs us->r xs H Q->
  wpAny (model X.prog X.w) X.A (call f us) (EP X pins σ Q) X.xe s
def TruR (X:Cx) (r:V->Hp->(Bool->Hp->Prop)->Prop):Prop:=
 ∀(pins:List (Addr×Obj)) (s:Shared) (σ:St) (H:Hp) (x:V) (v:Value) (Q:Bool->Hp->Prop),kC X pins σ H s->pC x v->r x H Q->
  wpAny (model X.prog X.w) X.A (truthy v) (TP X pins σ Q) X.xe s
def rN (r:R2) (ta tb:TE):TE:=λσ H Q=>ta σ H λx H1=>tb σ H1 λy H2=>r x y H2 Q
def Q2 (r:V->Hp->VK->Prop) (ta:TE):TE:=λσ H Q=>ta σ H λx H1=>r x H1 Q
def rI (C:Int->Int->Prop) (g:Int->Int->V):R2:=λx y H Q=>∃i j,x=.int i/\y=.int j/\C i j/\Q (g i j) H
def sH (g:Int->Int->V):R2:=λx y H Q=>∃i j,x=.int i/\y=.int j/\Q (g i j) H
def rU (g:Int->V):V->Hp->VK->Prop:=λx H Q=>∃i,x=.int i/\Q (g i) H
section
variable {X:Cx} {a b c:Expr} {ta tb tc:TE} {pos:Pos}
theorem DK (ha:PE X a ta) (hb:PE X b tb) {pins:List (Addr×Obj)} {s:Shared} {σ:St} {H:Hp} {R:V->V->Hp->Prop} (I:kC X pins σ H s)
  (h:ta σ H λx H1=>tb σ H1 λy H2=>R x y H2) {Q:Value->Shared->Prop} {f:Value->Value->Sem Value}
  (hf:∀v u s2 x y H2,kC X pins σ H2 s2->pC x v->pC y u->R x y H2->wpAny (model X.prog X.w) X.A (f v u) Q X.xe s2):
  wpAny (model X.prog X.w) X.A (eval a X.env) (λv s₁=>wpAny (model X.prog X.w) X.A (eval b X.env) (λu s₂=>wpAny (model X.prog X.w) X.A (f v u) Q X.xe s₂) X.xe s₁) X.xe s:=by
 refine KC (ha pins s σ H _ I h) λv s1 zz=>?_;obtain⟨x,H1,I1,r1,q1⟩:=zz;refine KC (hb pins s1 σ H1 _ I1 q1) λu s2 zz=>?_;obtain⟨y,H2,I2,r2,q2⟩:=zz;exact hf v u s2 x y H2 I2 r1 r2 q2
theorem BD {op:Operator} {r:R2} (ho:HE X (binaryOp op) r) (ha:PE X a ta) (hb:PE X b tb):PE X (.BinOp a op b pos) (rN r ta tb):=by
 intro pins s σ H Q I h;exact wpAny_BinOp (DK ha hb I h λv u s2 x y H2 I2 rx ry q=>ho pins s2 σ H2 x y v u Q I2 rx ry q)
theorem jJ {op:UnaryOp} {r:V->Hp->VK->Prop} (ho:P2 X (unaryOp op) r) (ha:PE X a ta):PE X (.UnaryOp op a pos) (Q2 r ta):=by
 intro pins s σ H Q I h;exact UnaryOp_ (KC (ha pins s σ H _ I h) λv s1 ⟨x,H1,I1,r1,q1⟩=>ho pins s1 σ H1 x v Q I1 r1 q1)
theorem sN {f:Value->Value->Sem Value} {C:Int->Int->Prop} {g:Int->Int->Int}
  (rule:∀(i j:Int) (t u:Tok) (s:Shared) (Q:Value->Shared->Prop) (E:Value->Shared->Prop),C i j->Q (.int (g i j) s.toks) {s with toks:=s.toks+1}->wpAny (model X.prog X.w) X.A (f (.int i t) (.int j u)) Q E s):
  HE X f (rI C λi j=>.int (g i j)):=by
 intro pins s σ H x y v u Q I rx ry h;obtain⟨i,j,rfl,rfl,hc,q⟩:=h;obtain⟨t,rfl⟩:=rx;obtain⟨t',rfl⟩:=ry;exact rule i j t t' s _ _ hc ⟨.int (g i j),H,I.tok _,⟨_,rfl⟩,q⟩
theorem EK {f:Value->Value->Sem Value} {g:Int->Int->Int}
  (rule:∀(i j:Int) (t u:Tok) (s:Shared) (Q:Value->Shared->Prop) (E:Value->Shared->Prop),Q (.int (g i j) s.toks) {s with toks:=s.toks+1}->wpAny (model X.prog X.w) X.A (f (.int i t) (.int j u)) Q E s):
  HE X f (sH λi j=>.int (g i j)):=by
 intro pins s σ H x y v u Q I rx ry h;obtain⟨i,j,rfl,rfl,q⟩:=h;obtain⟨t,rfl⟩:=rx;obtain⟨t',rfl⟩:=ry;exact rule i j t t' s _ _ ⟨.int (g i j),H,I.tok _,⟨_,rfl⟩,q⟩
theorem CI {f:Value->Value->Sem Value} {g:Int->Int->Bool}
  (rule:∀(i j:Int) (t u:Tok) (s:Shared) (Q:Value->Shared->Prop) (E:Value->Shared->Prop),Q (.bool (g i j)) s->wpAny (model X.prog X.w) X.A (f (.int i t) (.int j u)) Q E s):
  HE X f (sH λi j=>.bl (g i j)):=by
 intro pins s σ H x y v u Q I rx ry h;obtain⟨i,j,rfl,rfl,q⟩:=h;obtain⟨t,rfl⟩:=rx;obtain⟨t',rfl⟩:=ry;exact rule i j t t' s _ _ ⟨.bl (g i j),H,I,rfl,q⟩
def tN (i j:Int):Prop:=0 < j/\j < 1073741824
def FK (i j:Int):Prop:=0<=j/\j<=1000000/\i.natAbs < 2 ^ 64
def DI (i j:Int):Prop:=(-(2 ^ 64) < i/\i < 2 ^ 64)\/(-(2 ^ 64) < j/\j < 2 ^ 64)
theorem DI.ok {i j:Int} (h:DI i j):IntMulOk i j:=by
 rcases h with ⟨h1,h2⟩|⟨h1,h2⟩
 ·exact .of_left (intBits_le_64 h1 h2)
 ·exact .of_right (intBits_le_64 h1 h2)
theorem aG:HE X (binaryOp .Add) (sH λi j=>.int (i+j)):=EK λο ο ο ο ο ο ο q=>add_int q
theorem tH:HE X (binaryOp .Sub) (sH λi j=>.int (i - j)):=EK λο ο ο ο ο ο ο q=>sub_int q
theorem uN:HE X (binaryOp .Mult) (rI DI λi j=>.int (i * j)):=sN λο ο ο ο ο ο ο hc q=>mul_int q hc.ok
theorem RQ:HE X (binaryOp .FloorDiv) (rI tN λi j=>.int (i / j)):=sN λi j ο ο ο ο ο hc q=>by
 have h1:(0:Int) < j:=hc.1;have h2:j < 1073741824:=hc.2;exact floordiv_int ⋯ (by rw[Int.fdiv_eq_ediv_of_nonneg i ⋯];exact q) (.inl (PyProof.noPylong_small ⋯))
theorem eI:HE X (binaryOp .Mod) (rI (λο j=>0 < j) λi j=>.int (i % j)):=sN λi j ο ο ο ο ο hc q=>by
 have h1:(0:Int) < j:=hc;exact mod_int' ⋯ (by rw[Int.fmod_eq_emod_of_nonneg i ⋯];exact q)
theorem T2:HE X (binaryOp .Pow) (rI FK λi j=>.int (i ^ j.toNat)):=sN λο ο ο ο ο ο ο hc q=>pow_int_small hc.1 hc.2.1 hc.2.2 q
theorem GK:HE X (binaryOp .LShift) (rI FK λi j=>.int (i * 2 ^ j.toNat)):=sN λο ο ο ο ο ο ο hc q=>lshift_int_small hc.1 hc.2.1 hc.2.2 q
theorem HK:HE X (binaryOp .BitAnd) (sH λi j=>.int (Builtin.bitAnd i j)):=EK λο ο ο ο ο ο ο q=>and_int q
end
def uH:V->V->Bool
 |.non,.non=>true|.non,.int _=>true|.int _,.non=>true|.non,.bl _=>true|.bl _,.non=>true|.non,.str _=>true|.str _,.non=>true
 |.int _,.int _=>true|.bl _,.bl _=>true|.str _,.str _=>true|.byt _,.byt _=>true
 |.int _,.str _=>true|.str _,.int _=>true|.bl _,.str _=>true|.str _,.bl _=>true
 |_,_=>false
def rEq:R2:=λx y H Q=>uH x y=true/\Q (.bl (decide (x=y))) H
def rNe:R2:=λx y H Q=>uH x y=true/\Q (.bl (!decide (x=y))) H
theorem U2 {i j:Int}:decide (V.int i=V.int j)=(i == j):=by
 rw[eB];simp
theorem V2 {i j:Bool}:decide (V.bl i=V.bl j)=(i == j):=by
 rw[eB];simp
theorem W2 {i j:Str}:decide (V.str i=V.str j)=(i == j):=by
 rw[eB];simp
theorem X2 {i j:Array UInt8}:decide (V.byt i=V.byt j)=(i.toList == j.toList):=by
 rw[eB];cases i;cases j;simp
section
variable {X:Cx} {a b c:Expr} {ta tb tc:TE} {pos:Pos}
theorem vE {pins:List (Addr×Obj)} {σ:St} {H:Hp} {s:Shared} {Q:VK} {k k':Bool} (I:kC X pins σ H s) (q:Q (.bl k) H) (e:k=k'):EP X pins σ Q (.bool k') s:=by
 subst e;exact⟨.bl k,H,I,rfl,q⟩
theorem EI:HE X (compareOp .Eq) rEq:=by
 intro pins s σ H x y v u Q I rx ry h;obtain⟨hs,q⟩:=h;cases x with
 |non=>
  cases rx;cases y with
  |non=>cases ry;exact PySem.EqNone.eq_none_none (vE I q (by simp))
  |bl j=>cases ry;exact PySem.EqNone.eq_none_bool (vE I q (by simp))
  |int j=>obtain⟨t',rfl⟩:=ry;exact PySem.EqNone.eq_none_int (vE I q (by simp))
  |str j=>obtain⟨t',rfl⟩:=ry;exact PySem.EqNone.eq_none_str (vE I q (by simp))
  |_=>exact absurd (show false=true from hs) wA
 |bl i=>
  cases rx;cases y with
  |non=>cases ry;exact PySem.EqNone.eq_bool_none (vE I q (by simp))
  |bl j=>cases ry;exact eq_bool (vE I q V2)
  |str j=>obtain⟨t',rfl⟩:=ry;exact PySem.EqMixed.eq_bool_str (vE I q (by simp))
  |_=>exact absurd (show false=true from hs) wA
 |int i=>
  obtain⟨t,rfl⟩:=rx;cases y with
  |non=>cases ry;exact PySem.EqNone.eq_int_none (vE I q (by simp))
  |int j=>obtain⟨t',rfl⟩:=ry;exact eq_int (vE I q U2)
  |str j=>obtain⟨t',rfl⟩:=ry;exact PySem.EqMixed.eq_int_str (vE I q (by simp))
  |_=>exact absurd (show false=true from hs) wA
 |str i=>
  obtain⟨t,rfl⟩:=rx;cases y with
  |non=>cases ry;exact PySem.EqNone.eq_str_none (vE I q (by simp))
  |bl j=>cases ry;exact PySem.EqMixed.eq_str_bool (vE I q (by simp))
  |int j=>obtain⟨t',rfl⟩:=ry;exact PySem.EqMixed.eq_str_int (vE I q (by simp))
  |str j=>obtain⟨t',rfl⟩:=ry;exact eq_str (vE I q W2)
  |_=>exact absurd (show false=true from hs) wA
 |byt i=>
  obtain⟨t,rfl⟩:=rx;cases y with
  |byt j=>obtain⟨t',rfl⟩:=ry;exact PySem.W.eq_bytes (vE I q X2)
  |_=>exact absurd (show false=true from hs) wA
 |_=>cases y<;>exact absurd (show false=true from hs) wA
theorem SQ:HE X (compareOp .NotEq) rNe:=by
 intro pins s σ H x y v u Q I rx ry h;obtain⟨hs,q⟩:=h;cases x with
 |non=>
  cases rx;cases y with
  |non=>cases ry;exact PySem.EqNone.ne_none_none (vE I q (by simp))
  |bl j=>cases ry;exact PySem.EqNone.ne_none_bool (vE I q (by simp))
  |int j=>obtain⟨t',rfl⟩:=ry;exact PySem.EqNone.ne_none_int (vE I q (by simp))
  |str j=>obtain⟨t',rfl⟩:=ry;exact PySem.EqNone.ne_none_str (vE I q (by simp))
  |_=>exact absurd (show false=true from hs) wA
 |bl i=>
  cases rx;cases y with
  |non=>cases ry;exact PySem.EqNone.ne_bool_none (vE I q (by simp))
  |bl j=>cases ry;exact ne_bool (vE I q (congrArg not V2))
  |str j=>obtain⟨t',rfl⟩:=ry;exact PySem.EqMixed.ne_bool_str (vE I q (by simp))
  |_=>exact absurd (show false=true from hs) wA
 |int i=>
  obtain⟨t,rfl⟩:=rx;cases y with
  |non=>cases ry;exact PySem.EqNone.ne_int_none (vE I q (by simp))
  |int j=>obtain⟨t',rfl⟩:=ry;exact ne_int (vE I q (congrArg not U2))
  |str j=>obtain⟨t',rfl⟩:=ry;exact PySem.EqMixed.ne_int_str (vE I q (by simp))
  |_=>exact absurd (show false=true from hs) wA
 |str i=>
  obtain⟨t,rfl⟩:=rx;cases y with
  |non=>cases ry;exact PySem.EqNone.ne_str_none (vE I q (by simp))
  |bl j=>cases ry;exact PySem.EqMixed.ne_str_bool (vE I q (by simp))
  |int j=>obtain⟨t',rfl⟩:=ry;exact PySem.EqMixed.ne_str_int (vE I q (by simp))
  |str j=>obtain⟨t',rfl⟩:=ry;exact ne_str (vE I q (congrArg not W2))
  |_=>exact absurd (show false=true from hs) wA
 |byt i=>
  obtain⟨t,rfl⟩:=rx;cases y with
  |byt j=>obtain⟨t',rfl⟩:=ry;exact PySem.W.ne_bytes (vE I q (congrArg not X2))
  |_=>exact absurd (show false=true from hs) wA
 |_=>cases y<;>exact absurd (show false=true from hs) wA
theorem vN:HE X (compareOp .Lt) (sH λi j=>.bl (decide (i < j))):=CI λο ο ο ο ο ο ο q=>lt_int q
theorem kJ:HE X (compareOp .LtE) (sH λi j=>.bl (decide (i<=j))):=CI λο ο ο ο ο ο ο q=>le_int q
theorem IK:HE X (compareOp .Gt) (sH λi j=>.bl (decide (j < i))):=CI λο ο ο ο ο ο ο q=>gt_int q
theorem lJ:HE X (compareOp .GtE) (sH λi j=>.bl (decide (j<=i))):=CI λο ο ο ο ο ο ο q=>ge_int q
theorem fI:HE X (compareOp .Is) (λx y H Q=>y=.non/\Q (.bl (decide (x=.non))) H):=by
 intro pins s σ H x y v u Q I rx ry h;obtain⟨rfl,q⟩:=h;cases ry;refine is_none_gen (vE I q ?_);cases x<;>first
  |(cases rx;rfl)
  |(obtain⟨t,rfl⟩:=rx;rfl)
theorem Y2:HE X (compareOp .IsNot) (λx y H Q=>y=.non/\Q (.bl (!decide (x=.non))) H):=by
 intro pins s σ H x y v u Q I rx ry h;obtain⟨rfl,q⟩:=h;cases ry;refine isnot_none_gen (vE I q ?_);cases x<;>first
  |(cases rx;rfl)
  |(obtain⟨t,rfl⟩:=rx;rfl)
theorem wC (b:Expr) {op:CmpOp} (h:op≠.In:=by decide) (h2:op≠.NotIn:=by decide):behindInMarks op b=false:=by
 have e1:(op == CmpOp.In)=false:=by cases op<;>first|rfl|exact absurd rfl h
 have e2:(op == CmpOp.NotIn)=false:=by cases op<;>first|rfl|exact absurd rfl h2
 cases b<;>simp[behindInMarks,e1,e2]
theorem DM {op:CmpOp} {r:R2} (ho:HE X (compareOp op) r) (ha:PE X a ta) (hb:PE X b tb) (hm:behindInMarks op b=false):PE X (.Compare a [op] [b] pos) (rN r ta tb):=by
 intro pins s σ H Q I h;exact wpAny_Compare1 (DK ha hb I h λv u s2 x y H2 I2 rx ry q=>ho pins s2 σ H2 x y v u Q I2 rx ry q) hm
def mJ (t:TE):TT:=λσ H Q=>t σ H λx H'=>∃k,x=.bl k/\Q k H'
theorem pE {op:CmpOp} {r:R2} (ho:HE X (compareOp op) r) (ha:PE X a ta) (hb:PE X b tb) (hm:behindInMarks op b=false):PT X (.Compare a [op] [b] pos) (mJ (rN r ta tb)):=by
 intro pins s σ H Q I h;refine wpAny_isTrue_Compare1 (KC (ha pins s σ H _ I h) λv s1 ⟨x,H1,I1,r1,q1⟩=>KC (hb pins s1 σ H1 _ I1 q1) λu s2 ⟨y,H2,I2,r2,q2⟩=>
  KC (ho pins s2 σ H2 x y v u _ I2 r1 r2 q2) λc s3 ⟨z,H3,I3,r3,k,e,q3⟩=>?_) hm
 subst e;cases r3;exact wpAny_truthy_bool ⟨H3,I3,q3⟩
def vH (r r':R2) (ta tb tc:TE):TE:=λσ H Q=>ta σ H λx H1=>tb σ H1 λy H2=>r x y H2 λz H3=>∃k,z=.bl k/\
 (if k=true then tc σ H3 λw' H4=>r' y w' H4 Q else Q (.bl false) H3)
theorem Ob {op op':CmpOp} {r r':R2} (ho:HE X (compareOp op) r) (ho':HE X (compareOp op') r') (ha:PE X a ta) (hb:PE X b tb) (hc:PE X c tc)
  (hm:lastMarks [op,op'] [b,c]=false:=by with_unfolding_all rfl):PE X (.Compare a [op,op'] [b,c] pos) (vH r r' ta tb tc):=by
 intro pins s σ H Q I h;refine Compare_chain (KC (ha pins s σ H _ I h) λv s1 ⟨x,H1,I1,r1,q1⟩=>chain_link (KC (hb pins s1 σ H1 _ I1 q1) λu s2 ⟨y,H2,I2,r2,q2⟩=>
  KC (ho pins s2 σ H2 x y v u _ I2 r1 r2 q2) λd s3 ⟨z,H3,I3,r3,k,e,q3⟩=>?_)) hm
 subst e;cases r3;refine wpAny_truthy_bool ?_;cases k with
 |false=>exact ite_ff ⟨.bl false,H3,I3,rfl,q3⟩
 |true=>exact ite_tt (chain_last (KC (hc pins s3 σ H3 _ I3 q3) λw' s4 ⟨z',H4,I4,r4,q4⟩=>ho' pins s4 σ H4 y z' u w' Q I4 r2 r4 q4))
def TruV (K:PySem.W.Frag) (x:V) (H:Hp) (k:Bool):Prop:=
 match x with
 |.non=>k=false
 |.bl b=>k=b
 |.int i=>k=(i != 0)
 |.str y=>y.length<=sizeLine/\k=((y.length:Int) != 0)
 |.byt y=>y.size<=sizeLine/\k=((y.size:Int) != 0)
 |.ref p=>(∃xs,QC K H p xs/\k= !xs.isEmpty)\/(∃xs,ZC K H p xs/\k= !xs.isEmpty)\/∃kvs,H p=some (.dK kvs)/\k= !kvs.isEmpty
 |_=>False
theorem NF:(sizeLine:Nat) < 2 ^ 63:=by rw[sizeLine_eq];decide
theorem IE {x:V} {us:List Value} (r:sC [x] us):∃u,us=[u]/\pC x u:=by
 cases r with
 |cons r1 r2=>cases r2;exact⟨_,rfl,r1⟩
theorem nJ {x y:V} {us:List Value} (r:sC [x,y] us):∃u w',us=[u,w']/\pC x u/\pC y w':=by
 cases r with
 |cons r1 r2=>
  cases r2 with
  |cons r3 r4=>cases r4;exact⟨_,_,rfl,r1,r3⟩
theorem Pb (hc:X.calm=true):QD X (.builtin "max") (λxs H Q=>∃i j,xs=[.int i,.int j]/\Q (.int (if j > i then j else i)) H):=by
 intro pins s σ H xs us Q I r h;obtain⟨i,j,rfl,q⟩:=h;obtain⟨u,w',rfl,⟨t,rfl⟩,⟨t',rfl⟩⟩:=nJ r;refine max_two_ints (I.ok.hd hc) λh' tk k=>⟨_,H,I.kept k,?_,q⟩
 by_cases hj:j > i
 ·rw[iA hj,iA hj];exact⟨_,rfl⟩
 ·rw[fA hj,fA hj];exact⟨_,rfl⟩
theorem Qb (hc:X.calm=true):QD X (.builtin "min") (λxs H Q=>∃i j,xs=[.int i,.int j]/\Q (.int (if j < i then j else i)) H):=by
 intro pins s σ H xs us Q I r h;obtain⟨i,j,rfl,q⟩:=h;obtain⟨u,w',rfl,⟨t,rfl⟩,⟨t',rfl⟩⟩:=nJ r;refine min_two_ints (I.ok.hd hc) λh' tk k=>⟨_,H,I.kept k,?_,q⟩
 by_cases hj:j < i
 ·rw[iA hj,iA hj];exact⟨_,rfl⟩
 ·rw[fA hj,fA hj];exact⟨_,rfl⟩
def TQ (K:PySem.W.Frag) (x:V) (H:Hp) (n:Nat):Prop:=
 match x with
 |.str y=>y.length<=sizeLine/\n=y.length
 |.byt y=>y.size<=sizeLine/\n=y.size
 |.ref p=>(∃xs,QC K H p xs/\n=xs.length)\/∃xs,ZC K H p xs/\n=xs.length
 |_=>False
theorem oJ:QD X (.builtin "len") (λxs H Q=>∃x n,xs=[x]/\TQ X.K x H n/\Q (.int n) H):=by
 intro pins s σ H xs us Q I r h;obtain⟨x,n,rfl,e,q⟩:=h;obtain⟨u,rfl,rx⟩:=IE r;have hl:=NF;have hs:sizeLine=16777216:=sizeLine_eq;cases x with
 |str y=>
  obtain⟨t,rfl⟩:=rx;obtain⟨hy,e'⟩:y.length<=sizeLine/\n=y.length:=e;subst e';exact len_str ⋯ ⟨.int _,H,I.tok _,⟨_,rfl⟩,q⟩
 |byt y=>
  obtain⟨t,rfl⟩:=rx;obtain⟨hy,e'⟩:y.size<=sizeLine/\n=y.size:=e;subst e';exact PySem.W.len_bytes ⋯ ⟨.int _,H,I.tok _,⟨_,rfl⟩,q⟩
 |ref p=>
  cases rx;have e':(∃xs,QC X.K H p xs/\n=xs.length)\/∃xs,ZC X.K H p xs/\n=xs.length:=e;rcases e' with ⟨xs,hx,e'⟩|⟨xs,hx,e'⟩
  ·subst e';obtain⟨its,r',pl,hz⟩:=I.list hx;have hlen:=r'.length;exact Calls.call_len_list pl.isList (by simp only[CA];omega) ⟨.int xs.length,H,I.tok _,⟨_,by simp only[CA];rw[hlen]⟩,q⟩
  ·subst e';obtain⟨its,r',pl,hz⟩:=I.tuple hx;have hlen:=r'.length;exact len_tuple pl (by simp only[CA];omega) ⟨.int xs.length,H,I.tok _,⟨_,by simp only[CA];rw[hlen]⟩,q⟩
 |_=>exact (show False from e).elim
end
end L2
namespace L2
open PySem PySem.Spec PyProof.Rows
structure rG (h:Heap) (x dx C:Addr) (mA:Str->Option Value):Prop where
 obj:h.get? x=some (PySem.W.instObj C dx)
 ns:h.Ns1 dx mA
 ne:dx≠x
set_option tactic.hygienic true in
theorem Rb {h:Heap} {dx:Addr} {mA:Str->Option Value} (n:h.Ns1 dx mA):∃od,h.get? dx=some od/\∀name,PySem.W.lookIn name od=some (mA name):=by
 obtain⟨o,es,ep,ho,hd,hk,_,hm⟩:=n;refine⟨o,ho,λname=>?_⟩;have e:=hm name;unfold nsFind findBy at e;rw[<-Array.find?_toList] at e;unfold PySem.W.lookIn;rw[hd];dsimp only
 split
 ·rename_i y q;rw[q] at e;exact congrArg some e
 ·rename_i q;rw[q] at e;have a:es.toList.any (·.refKey)=false:=by
   rw[List.any_eq_false];intro y hy;obtain⟨z,t,hkey⟩:=hk y (Array.mem_toList_iff.mp hy);simp[DictEntry.refKey,hkey]
  have a':¬es.toList.any (·.refKey)=true:=by rw[a];exact wA
  rw[fA a'];exact congrArg some e
theorem rG.look {h:Heap} {x dx C:Addr} {mA:Str->Option Value} (I:rG h x dx C mA):∃od,PySem.W.InstAt h x (PySem.W.instObj C dx) C (some od)/\∀name,PySem.W.lookIn name od=some (mA name):=
 let ⟨od,ho,hl⟩:=Rb I.ns
 ⟨od,⟨I.obj,rfl,rfl,ho⟩,hl⟩
section
variable {prog:Program} {w:World} {A:Around} {E:Value->Shared->Prop} {s:Shared} {K:PySem.W.Frag} {x dx C f:Addr} {mA:Str->Option Value} {name:Str} {v:Value}
theorem Tb {expr:Bool} {Q:Value->Shared->Prop} (X:K.In s.heap) (I:rG s.heap x dx C mA) (hg:PySem.W.plainGet K C name=true) (hh:PySem.W.hasDictIn K C=true)
  (ha:PySem.W.findIn K (.ref C) name=some none) (hv:mA name=some v) (hv':PySem.W.handedIn v=true) (h:Q v {s with toks:=s.toks+1}):
  wpAny (model prog w) A (getAttr (.ref x) name expr) Q E s:=by
 obtain⟨od,J,hl⟩:=I.look;exact PySem.W.get_value X J (PySem.W.plainGet_of hg).1 (PySem.W.findObj_own hh ha rfl (by rw[hl,hv])) hv' h
theorem Ub {pl:Sem Bool} {Q:Value×List Value->Shared->Prop} (X:K.In s.heap) (I:rG s.heap x dx C mA) (hg:PySem.W.plainGet K C name=true)
  (hf:PySem.W.findIn K (.ref C) name=some (some (.ref f))) (ht:PySem.W.isFn K (.ref f)=true) (hv:mA name=none) (h:Q (.ref f,[.ref x]) s):
  wpAny (model prog w) A (getMethod (.ref x) name pl) Q E s:=by
 obtain⟨od,J,hl⟩:=I.look;exact PySem.W.method_fn X J (PySem.W.plainGet_of hg).1 (PySem.W.plainGet_of hg).2 hf (EB.mp ht) (by show (PySem.W.lookIn name od).map (·.isSome)=some false;rw[hl,hv];rfl) h
theorem Vb {ns:List Str} {Q:Unit->Shared->Prop} (X:K.In s.heap) (I:rG s.heap x dx C mA)
  (hs:PySem.W.findIn K (.ref C) "__setattr__"=some (some (.builtin "object.__setattr__"))) (hp:PySem.W.plainOver K C=true) (ht:PySem.W.takerIn K C name=some none) (hh:PySem.W.hasDictIn K C=true)
  (hw:PySem.Within mA ns) (hsz:ns.length<=sizeLine)
  (h:∀h',rG h' x dx C (λy=>if y=name then some v else mA y)->Heap.SameBut dx s.heap h'->Q () {s with heap:=h',toks:=s.toks+2}):
  wpAny (model prog w) A (setAttr (.ref x) name v) Q E s:=by
 obtain⟨od,J,hl⟩:=I.look;refine PySem.W.set_plain X J hs (PySem.W.osa_open (s:={s with toks:=s.toks+1}) (r:=none) X J hp ht λb=>?_);obtain⟨cd,hc,hd'⟩:=PySem.W.any_some hh;have hx:s.heap.get? x=some ⟨.ref C,some dx,.plain, #[]⟩:=I.obj;refine jA (EA (jA (jA (wpAny_loadPart hx (jA (PySem.W.Looks.here (s:={s with toks:=s.toks+1}) (PySem.W.looks_clsIn X hc) ?_))))));rw[hd'];refine EA (a:=some dx) (jA (EA (jA ?_)));refine wpAny_nsSet1 (s:={s with toks:=s.toks+1}) I.ns λh' hn2 hs2=>?_;obtain⟨oD,esD,epD,FE,hdD,hcD⟩:=hn2.count (PySem.Within.cons name v hw);refine jA (wpAny_lookBehind FE (by rw[hdD];exact pastItsLine_dict (dB hcD (by rw[ZA];omega))) ?_);exact EA (h _ ⟨(hs2.2 _ (Ne.symm I.ne)).trans I.obj,hn2,I.ne⟩ hs2)
theorem Wb {R:Result->Shared->Prop} {vs:List Value} {kw:List (Str×Value)} (X:K.In s.heap) (hm:PySem.W.makesIn K C=true)
  (hi:PySem.W.findIn K (.ref C) "__init__"=some (some (.ref f))) (hf:PySem.W.typeIn K (.ref f)=some (.type "function"))
  (h:codeAny (model prog w) (A.under (.builtin "type.__call__" ⟨.ref C::vs,kw⟩)) (.call (.ref f) ⟨.ref (s.heap.objs.size+1)::vs,kw⟩) (PySem.W.InitBack (s.heap.objs.size+1) R)
   {s with heap:=(s.heap.push PySem.W.emptyDict).push (PySem.W.instObj C s.heap.objs.size)}):
  codeAny (model prog w) A (.call (.ref C) ⟨vs,kw⟩) R s:=by
 obtain⟨hh,g,d,t,os⟩:=s;exact PySem.W.make_core (PySem.W.makes_of X hm) (PySem.W.looks_findIn X hi) (λself=>PySem.W.bind_fn X self hf) (.inl rfl) h
end
def nC (f:Str) (v:V):List (Str×V)->List (Str×V)
 |[]=>[(f,v)]
 |(g,x)::r=>if g=f then (g,v)::r else (g,x)::nC f v r
theorem EM (f g:Str) (v:V):∀fs:List (Str×V),(nC f v fs).lookup g=if g=f then some v else fs.lookup g
 |[]=>by
  show List.lookup g [(f,v)]=_;by_cases h:g=f
  ·have hb:(g == f)=true:=EB.mpr h;simp only[List.lookup,hb,iA h]
  ·have hb:(g == f)=false:=FB.mpr h;simp only[List.lookup,hb,fA h]
 |(k,x)::r=>by
  have ih:=EM f g v r;rw[show nC f v ((k,x)::r)=(if k=f then (k,v)::r else (k,x)::nC f v r) from rfl];by_cases hk:k=f
  ·rw[iA hk];by_cases h:g=k
   ·have hb:(g == k)=true:=EB.mpr h;simp only[List.lookup,hb,iA (h.trans hk)]
   ·have hb:(g == k)=false:=FB.mpr h;simp only[List.lookup,hb,fA (λe:g=f=>h (e.trans hk.symm))]
  ·rw[fA hk];by_cases h:g=k
   ·have hb:(g == k)=true:=EB.mpr h;simp only[List.lookup,hb,fA (λe:g=f=>hk (h.symm.trans e))]
   ·have hb:(g == k)=false:=FB.mpr h;simp only[List.lookup,hb];exact ih
theorem UQ (f:Str) (v:V):∀fs:List (Str×V),f∈(nC f v fs).map (·.1)/\∀g,g∈fs.map (·.1)->g∈(nC f v fs).map (·.1)
 |[]=>⟨by simp[nC],λg h=>by simp at h⟩
 |(k,x)::r=>by
  obtain⟨i1,i2⟩:=UQ f v r;rw[show nC f v ((k,x)::r)=(if k=f then (k,v)::r else (k,x)::nC f v r) from rfl];by_cases hk:k=f
  ·rw[iA hk];subst hk;exact⟨by simp,λg h=>by simpa using h⟩
  ·rw[fA hk];refine⟨?_,λg h=>?_⟩
   ·rw[yA];exact xA _ i1
   ·rw[yA] at h ⊢;rcases vA.mp h with e|e
    ·exact vA.mpr (.inl e)
    ·exact xA _ (i2 g e)
theorem Z2 (f:Str) (v:V):∀fs:List (Str×V),(nC f v fs).length<=fs.length+1
 |[]=>by simp[nC]
 |(k,x)::r=>by
  have ih:=Z2 f v r;rw[show nC f v ((k,x)::r)=(if k=f then (k,v)::r else (k,x)::nC f v r) from rfl];by_cases hk:k=f
  ·rw[iA hk,ZA,ZA];omega
  ·rw[fA hk,ZA,ZA];omega
theorem dE.some_of {v:V} {o:Option Value} (r:dE (some v) o):∃u,o=some u/\pC v u:=by
 cases o with
 |none=>exact (show False from r).elim
 |some u=>exact⟨u,rfl,r⟩
theorem dE.none_of {o:Option Value} (r:dE none o):o=none:=by
 cases o with
 |none=>rfl
 |some u=>exact (show False from r).elim
theorem Xb {v:V} {u:Value} (r:pC v u):PySem.W.handedIn u=true:=by
 cases v with
 |non=>cases (show u=Value.none from r);rfl
 |bl b=>cases (show u=Value.bool b from r);rfl
 |int i=>obtain⟨t,e⟩:=(show ∃t,u=Value.int i t from r);cases e;rfl
 |str x=>obtain⟨t,e⟩:=(show ∃t,u=Value.str x t from r);cases e;rfl
 |byt b=>obtain⟨t,e⟩:=(show ∃t,u=Value.bytes b t from r);cases e;rfl
 |flt b=>obtain⟨t,e⟩:=(show ∃t,u=Value.float b t from r);cases e;rfl
 |ref a=>cases (show u=Value.ref a from r);rfl
 |ty n=>cases (show u=Value.type n from r);rfl
section
variable {P:Program} {w:World} {H H':Hp} {h h':Heap} {a C dx:Addr} {fs fs':List (Str×V)}
theorem MP (hok:jE P w H h) (e:H a=some (.ins C dx fs)):∃mA,rG h a dx C mA/\(∀f,dE (fs.lookup f) (mA f))/\PySem.Within mA (fs.map (·.1))/\fs.length<=1000/\H dx=some (.own a):=by
 obtain⟨d,z,ne,ob,mA,n,r,q⟩:=(show MC P w H h a (.ins C dx fs) from hok a _ e)
 exact⟨mA,⟨ob,n,ne⟩,r,q,z,d⟩
end
structure OF (K:PySem.W.Frag) (C:Addr):Prop where
 pg:PySem.W.plainGet K C Str.empty=true
 hd:PySem.W.hasDictIn K C=true
 po:PySem.W.plainOver K C=true
 sa:PySem.W.findIn K (.ref C) "__setattr__"=some (some (.builtin "object.__setattr__"))
theorem OF.get {K:PySem.W.Frag} {C:Addr} (c:OF K C) (f:Str):PySem.W.plainGet K C f=true:=c.pg
def OC (K:PySem.W.Frag) (C:Addr) (f:Str):Prop:=PySem.W.findIn K (.ref C) f=some none
theorem OC.taker {K:PySem.W.Frag} {C:Addr} {f:Str} (n:OC K C f):PySem.W.takerIn K C f=some none:=by
 unfold PySem.W.takerIn;rw[show PySem.W.findIn K (.ref C) f=some none from n]
 rfl
structure tG (K:PySem.W.Frag) (C:Addr) (m:Str) (f:Addr):Prop where
 at_:PySem.W.findIn K (.ref C) m=some (some (.ref f))
 fn:PySem.W.isFn K (.ref f)=true
 kp:PySem.W.keepIn K (.ref f)=true
section
variable {X:Cx} {pins:List (Addr×Obj)} {σ:St} {H:Hp} {s:Shared} {a C dx:Addr} {fs:List (Str×V)} {f:Str} {v:V} {A:Around} {E:Value->Shared->Prop}
theorem Yb {b:Bool} {Q:Value->Shared->Prop} (I:kC X pins σ H s) (e:H a=some (.ins C dx fs)) (c:OF X.K C) (n:OC X.K C f) (l:fs.lookup f=some v)
  (h:∀u s',kC X pins σ H s'->pC v u->Q u s'):wpAny (model X.prog X.w) A (getAttr (.ref a) f b) Q E s:=by
 obtain⟨mA,O,r,_,_,_⟩:=MP I.hok e;obtain⟨u,hu,ru⟩:=dE.some_of (v:=v) (o:=mA f) (by rw[<-l];exact r f);exact Tb I.kIn O (c.get f) c.hd n hu (Xb ru) (h u _ (I.tok _) ru)
theorem i3 {m:Str} {g:Addr} {pl:Sem Bool} {Q:Value×List Value->Shared->Prop} (I:kC X pins σ H s) (e:H a=some (.ins C dx fs)) (c:OF X.K C) (k:tG X.K C m g) (l:fs.lookup m=none)
  (h:Q (.ref g,[.ref a]) s):wpAny (model X.prog X.w) A (getMethod (.ref a) m pl) Q E s:=by
 obtain⟨mA,O,r,_,_,_⟩:=MP I.hok e;have hn:mA m=none:=dE.none_of (by rw[<-l];exact r m);exact Ub I.kIn O (c.get m) k.at_ k.fn hn h
theorem Zb {y:V} {u:Value} {Q:Unit->Shared->Prop} (I:kC X pins σ H s) (e:H a=some (.ins C dx fs)) (c:OF X.K C) (n:OC X.K C f) (hl:fs.length < 1000) (ry:pC y u)
  (h:∀s',kC X pins σ (jC H a (.ins C dx (nC f y fs))) s'->Q () s'):wpAny (model X.prog X.w) A (setAttr (.ref a) f u) Q E s:=by
 obtain⟨mA,O,r,wi,_,ho⟩:=MP I.hok e;have hz:(fs.map (·.1)).length<=sizeLine:=by rw[cA,sizeLine_eq];omega
 refine Vb I.kIn O c.sa c.po n.taker c.hd wi hz λh' O' sb=>h _ ?_;have hd:∃o,h'.get? dx=some o:=let ⟨o,_,_,e',_⟩:=O'.ns;⟨o,e'⟩
 refine I.write (x:=a) (e:=dx) (by rw[e];exact True.intro) (.inr ho) (λb q hb z=>(sb.2 b hb).trans z) hd ?_;refine⟨by rw[vC O.ne];exact ho,?_,O.ne,O'.obj,_,O'.ns,λg=>?_,λg hg=>?_⟩
 ·have:=Z2 f y fs;omega
 ·show dE ((nC f y fs).lookup g) (if g=f then some u else mA g);rw[EM];by_cases q:g=f
  ·rw[iA q,iA q];exact ry
  ·rw[fA q,fA q];exact r g
 ·by_cases q:g=f
  ·rw[q];exact (UQ f y fs).1
  ·refine (UQ f y fs).2 g (wi g λz=>hg ?_);show (if g=f then some u else mA g)=none;rw[fA q];exact z
theorem kC.made (I:kC X pins σ H s):kC X pins σ (jC (jC H s.heap.objs.size (.own (s.heap.objs.size+1))) (s.heap.objs.size+1) (.ins C s.heap.objs.size []))
  {s with heap:=(s.heap.push PySem.W.emptyDict).push (PySem.W.instObj C s.heap.objs.size)}:=by
 have e1:(s.heap.push PySem.W.emptyDict).get? s.heap.objs.size=some PySem.W.emptyDict:=FA s.heap rfl;have e2:((s.heap.push PySem.W.emptyDict).push (PySem.W.instObj C s.heap.objs.size)).get? (s.heap.objs.size+1)=some (PySem.W.instObj C s.heap.objs.size):=by
  have:=FA (s.heap.push PySem.W.emptyDict) (o:=PySem.W.instObj C s.heap.objs.size) rfl;rwa[Heap.size_push] at this
 have e3:(s.heap.push PySem.W.emptyDict).Ns s.heap.objs.size (λο=>none):=⟨PySem.W.emptyDict, #[],_,e1,rfl,(λe he=>absurd he (by simp)),λο=>rfl⟩
 have I1:=I.laid (a:=s.heap.objs.size) (o:=.own (s.heap.objs.size+1)) (h':=s.heap.push PySem.W.emptyDict) (t':=s.toks) (λb u q=>uA _ q) (kA _) ⟨_,e1⟩;refine I1.laid (a:=s.heap.objs.size+1) (o:=.ins C s.heap.objs.size []) (t':=s.toks) (λb u q=>uA _ q) (Nat.le_of_eq (Heap.size_push _ _)) ?_;have ne:s.heap.objs.size≠s.heap.objs.size+1:=LA (Nat.lt_succ_self _);refine⟨by rw[vC ne,IC],aC _,ne,e2,λο=>none,(Heap.Ns1.of_empty e3).at λo q=>uA _ q,λο=>True.intro,λy hy=>absurd rfl hy⟩
theorem cc {prog:Program} {w:World} {env:Env} {e:Expr} {f:Str} {pos:Pos} {s:Shared} {Q:Value->Shared->Prop} (hb:attributeBase e f env (eval e env)=eval e env)
  (h:wpAny (model prog w) A (eval e env) (λo s₁=>wpAny (model prog w) A (getAttr o f true) Q E s₁) E s):wpAny (model prog w) A (eval (.Attribute e f pos) env) Q E s:=
 Attribute_any_ h (by rw[arm_eval_Attribute,hb])
end
def wN (K:PySem.W.Frag) (ta:TE) (f:Str):TE:=λσ H Q=>ta σ H λx H1=>∃a C dx fs v,x=.ref a/\H1 a=some (.ins C dx fs)/\OF K C/\OC K C f/\fs.lookup f=some v/\Q v H1
def xN (K:PySem.W.Frag) (ta tv:TE) (f:Str):TS:=λD σ H=>tv σ H λy H1=>ta σ H1 λx H2=>∃a C dx fs,x=.ref a/\H2 a=some (.ins C dx fs)/\OF K C/\OC K C f/\fs.length < 1000/\
 D.nx σ (jC H2 a (.ins C dx (nC f y fs)))
section
variable {X:Cx} {o e value:Expr} {f:Str} {pos pos' tpos:Pos} {ta tv:TE}
theorem cD (he:PE X e ta) (hb:attributeBase e f X.env (eval e X.env)=eval e X.env):PE X (.Attribute e f pos) (wN X.K ta f):=by
 intro pins s σ H Q I h;refine cc hb (KC (he pins s σ H _ I h) λu s1 zz=>?_);obtain⟨x,H1,I1,rx,a,C,dx,fs,v,ex,ea,c,n,l,q⟩:=zz;subst ex;obtain rfl:u=Value.ref a:=rx;exact Yb I1 ea c n l λu' s2 I2 ru=>⟨v,H1,I2,ru,q⟩
theorem xF (ha:PE X o ta) (hv:PE X value tv) (hs:swapsWith value (some (.Attribute o f pos')) pos.line X.env=pure false):PS X (.Assign [.Attribute o f pos'] value pos) (xN X.K ta tv f):=by
 intro pins s σ H D I h;refine plainObj_wpAny_Assign_Attribute (KC (hv pins s σ H _ I h) λu s1 ⟨y,H1,I1,ry,q⟩=>KC (ha pins s1 σ H1 _ I1 q) λov s2 zz=>?_) hs;obtain⟨x,H2,I2,rx,a,C,dx,fs,ex,ea,c,n,l,q2⟩:=zz;subst ex;obtain rfl:ov=Value.ref a:=rx;exact Zb I2 ea c n l ry λs3 I3=>⟨σ,_,I3,q2⟩
end
section
variable {X:Cx} {pins:List (Addr×Obj)} {σ:St} {H:Hp} {s:Shared} {A:Around} {E:Value->Shared->Prop} {Q:Value->Shared->Prop} {c:Value} {b:Bool}
inductive JE (K:PySem.W.Frag) (H:Hp):V->Value->Prop where
 |non:JE K H .non (.type "NoneType")
 |bl (x:Bool):JE K H (.bl x) (.type "bool")
 |int (i:Int):JE K H (.int i) (.type "int")
 |str (x:Str):JE K H (.str x) (.type "str")
 |flt (x:UInt64):JE K H (.flt x) (.type "float")
 |lst {a:Addr} {xs:List V} (e:H a=some (.lst xs)):JE K H (.ref a) (.type "list")
 |frz {a:Addr} {o:Obj} {xs:List V} (e:H a=some (.frz o (.lst xs))):JE K H (.ref a) (.type "list")
 |tup {a:Addr} {xs:List V} (e:H a=some (.tup xs)):JE K H (.ref a) (.type "tuple")
 |dK {a:Addr} {kvs:List (Key×V)} (e:H a=some (.dK kvs)):JE K H (.ref a) (.type "dict")
 |dT {a:Addr} {kvs:List (List Key×V)} (e:H a=some (.dT kvs)):JE K H (.ref a) (.type "dict")
 |ins {a C dx:Addr} {fs:List (Str×V)} (e:H a=some (.ins C dx fs)) (cl:OF K C) (ha:PySem.W.findIn K (.ref C) "__class__"=some (some (.builtin "object.__class__")))
  (hn:PySem.W.specialIn K (.builtin "object.__class__") "__get__"=some (some (.builtin "getset_descriptor.__get__"))) (htk:PySem.W.takesIn K (.builtin "object.__class__")=some true)
  (hm:PySem.W.mroIn K C (.type "object")=some true):JE K H (.ref a) (.ref C)
theorem dc {x:V} {u t:Value} (I:kC X pins σ H s) (rx:pC x u) (ty:JE X.K H x t) (e:PySem.W.kitOne X.K t c=some b) (h:∀tk,Q (.bool b) {s with toks:=tk}):
  wpAny (model X.prog X.w) A (call (.builtin "isinstance") [u,c]) Q E s:=by
 cases ty with
 |non=>cases (show u=Value.none from rx);exact PySem.W.kia_one PySem.W.kitx_none I.kIn True.intro e (λz=>nomatch z) h
 |bl y=>cases (show u=Value.bool y from rx);exact PySem.W.kia_one PySem.W.kitx_bool I.kIn True.intro e (λz=>nomatch z) h
 |int i=>obtain⟨t,q⟩:=(show ∃t,u=Value.int i t from rx);cases q;exact PySem.W.kia_one PySem.W.kitx_int I.kIn True.intro e (λz=>nomatch z) h
 |str y=>obtain⟨t,q⟩:=(show ∃t,u=Value.str y t from rx);cases q;exact PySem.W.kia_one PySem.W.kitx_str I.kIn True.intro e (λz=>nomatch z) h
 |flt y=>obtain⟨t,q⟩:=(show ∃t,u=Value.float y t from rx);cases q;exact PySem.W.kia_one PySem.W.kitx_float I.kIn True.intro e (λz=>nomatch z) h
 |@lst a xs ea=>
  cases (show u=Value.ref a from rx);obtain⟨_,_,n,_,h1⟩:=(show MC X.prog X.w H s.heap a (.lst xs) from I.hok a _ ea)
  exact PySem.W.kia_one PySem.W.kitx_list I.kIn ⟨_,h1,rfl⟩ e (λz=>nomatch z) h
 |@frz a ob xs ea=>
  cases (show u=Value.ref a from rx);obtain⟨_,_,_,n,_,h1⟩:=(show MC X.prog X.w H s.heap a (.frz ob (.lst xs)) from I.hok a _ ea)
  exact PySem.W.kia_one PySem.W.kitx_list I.kIn ⟨_,h1,rfl⟩ e (λz=>nomatch z) h
 |@tup a xs ea=>
  cases (show u=Value.ref a from rx);obtain⟨_,_,_,p⟩:=(show MC X.prog X.w H s.heap a (.tup xs) from I.hok a _ ea)
  obtain⟨o,h1,h2,_⟩:=p;exact PySem.W.kia_one PySem.W.kitx_tuple I.kIn ⟨o,h1,h2⟩ e (λz=>nomatch z) h
 |@dK a kvs ea=>
  cases (show u=Value.ref a from rx);obtain⟨_,_,vs,_,p⟩:=(show MC X.prog X.w H s.heap a (.dK kvs) from I.hok a _ ea)
  obtain⟨o,es,ep,h1,h2,_⟩:=p;exact PySem.W.kia_one PySem.W.kitx_dict I.kIn ⟨o,h1,h2.1⟩ e (λz=>nomatch z) h
 |@dT a kvs ea=>
  cases (show u=Value.ref a from rx);obtain⟨_,_,xs,_,o,es,ep,h1,h2,_⟩:=(show MC X.prog X.w H s.heap a (.dT kvs) from I.hok a _ ea)
  exact PySem.W.kia_one PySem.W.kitx_dict I.kIn ⟨o,h1,h2.1⟩ e (λz=>nomatch z) h
 |@ins a C dx fs ea cl ha hn htk hm=>
  cases (show u=Value.ref a from rx);obtain⟨mA,O,_⟩:=MP I.hok ea;obtain⟨od,J,_⟩:=O.look;exact PySem.W.kia_one (PySem.W.kitx_own (cl.get _) cl.hd ha hn htk hm) I.kIn J e (λz=>nomatch z) h
end
end L2
namespace L2
open PySem PySem.Spec PyProof.Rows
structure vD (k:Nat) (A:Around):Prop where
 hd:A.handled=none
 dp:A.depth+3 * k+5 < recursionLimit
 un:A.units+16 * k+200 < cLine
theorem vD.mono {j k:Nat} {A:Around} (r:vD k A) (h:j<=k):vD j A:=⟨r.hd,by have:=r.dp;omega,by have:=r.un;omega⟩
theorem vD.deeper {k:Nat} {A:Around} (r:vD (k+1) A) (env:Env):vD k (A.deeper env):=
 ⟨r.hd,by have:=r.dp;show A.depth+1+3 * k+5 < _;omega,by have:=r.un;show A.units+3+16 * k+200 < _;omega⟩
theorem fc {A:Around} {C:Addr} {us:List Value} {kw:List (Str×Value)}:(A.under (.builtin "type.__call__" ⟨.ref C::us,kw⟩)).depth=A.depth+1:=by
 first|rfl|simp[Around.under,Code.weight,Code.isCreation,Code.isGuard,Code.isCaller,Code.frames,Code.isFrame,guardIds]
theorem gc {A:Around} {C:Addr} {us:List Value} {kw:List (Str×Value)}:(A.under (.builtin "type.__call__" ⟨.ref C::us,kw⟩)).units=A.units+1:=by
 first|rfl|simp[Around.under,Code.cUnits,Code.frames,Code.isFrame]
theorem vD.make {k:Nat} {A:Around} (r:vD (k+1) A) (C:Addr) (us:List Value) (kw:List (Str×Value)):vD k (A.under (.builtin "type.__call__" ⟨.ref C::us,kw⟩)):=
 ⟨r.hd,by have:=r.dp;rw[fc];omega,by have:=r.un;rw[gc];omega⟩
theorem vD.depth {k:Nat} {A:Around} (r:vD k A):A.depth < recursionLimit:=by have:=r.dp;omega
theorem vD.units {k:Nat} {A:Around} (r:vD k A):A.units+64 < cLine:=by have:=r.un;omega
def tNil:TA:=λο H Q=>Q [] H
def pJ (ta:TE) (tr:TA):TA:=λσ H Q=>ta σ H λx H1=>tr σ H1 λxs H2=>Q (x::xs) H2
section
variable {X:Cx} {e:Expr} {es:List Expr} {te:TE} {t:TA} {pos:Pos}
theorem rC:PA X [] tNil:=λο ο ο ο H Q I h=>Calls.spliced_nil ⟨[],H,I,.nil,h⟩
theorem iC (ha:PE X e te) (hr:PA X es t) (hs:starEach (e::es) X.env=(false,eval e X.env)::starEach es X.env:=by rfl):PA X (e::es) (pJ te t):=by
 intro pos pins s σ H Q I h;rw[hs];show wpAny _ _ (spliced ((false,eval e X.env)::backTo pos (starEach es X.env))) _ _ s;refine IB (KC (ha pins s σ H _ I h) λu s1 zz=>?_);obtain⟨x,H1,I1,r1,q1⟩:=zz;exact KC (hr pos pins s1 σ H1 _ I1 q1) λus s2 ⟨xs,H2,I2,r2,q2⟩=>⟨x::xs,H2,I2,.cons r1 r2,q2⟩
def yN (t:TA):TE:=λσ H Q=>t σ H λxs H1=>xs.length<=sizeLine/\∀p,H1 p=none->Q (.ref p) (jC H1 p (.tup xs))
def zN (t:TA):TE:=λσ H Q=>t σ H λxs H1=>xs.length<=sizeLine/\∀p,H1 p=none->Q (.ref p) (jC H1 p (.lst xs))
theorem NG {x1} (h:PA X es t):PE X (.Tuple es x1 pos) (yN t):=by
 intro pins s σ H Q I hq;refine wpAny_Tuple_spliced (KC (h pos pins s σ H _ I hq) λus s1 ⟨xs,H1,I1,r,z,q⟩=>⟨by rw[<-r.length];exact z,?_⟩);have hf:H1 s1.heap.objs.size=none:=I1.hok.fresh (kA _);refine⟨.ref s1.heap.objs.size,jC H1 s1.heap.objs.size (.tup xs),I1.laid (t':=s1.toks) (λb u e=>uA _ e) (kA _) ?_,rfl,q _ hf⟩;exact⟨z,us,r,⟨_,FA _ rfl,rfl,_,rfl⟩⟩
theorem gI (h:PA X es t):PE X (.List es pos) (zN t):=by
 intro pins s σ H Q I hq;refine wpAny_List_spliced (KC (h pos pins s σ H _ I hq) λus s1 ⟨xs,H1,I1,r,z,q⟩=>⟨by rw[<-r.length];exact z,?_⟩);have hf:H1 s1.heap.objs.size=none:=I1.hok.fresh (kA _);refine⟨.ref s1.heap.objs.size,jC H1 s1.heap.objs.size (.lst xs),I1.laid (t':=s1.toks) (λb u e=>uA _ e) (kA _) ?_,rfl,q _ hf⟩;exact⟨z,us,0,r,FA _ rfl⟩
end
noncomputable abbrev Sp:=List V->Hp->VK->XK->Prop
noncomputable abbrev CXT:=List Env->Hp->Shared->XK->Value->Shared->Prop
structure uG (P:Program) (w:World) (K:PySem.W.Frag) (mg:Str->Option Value) (base:Heap) (A:Around) (outer:List Env) (s:Shared) (H:Hp):Prop where
 frames:A.frames=some outer
 mod:Mod K mg base
 bs:∀b o,base.get? b=some o->s.heap.get? b=some o/\H b=none
 bsz:base.objs.size<=s.heap.objs.size
 funs:s.heap.FunFrames base outer
 frf:∀b∈PD outer,H b=none
 hok:jE P w H s.heap
 bare:AllBare s.gens
def CE (outer:List Env) (P:Program) (w:World) (H:Hp) (s:Shared) (Q:VK) (u:Value) (s':Shared):Prop:=
 ∃v H',s'.os=s.os/\AllBare s'.gens/\Un (PD outer) [] H H' s.heap s'.heap/\jE P w H' s'.heap/\pC v u/\Q v H'
def CR (CX:CXT) (outer:List Env) (P:Program) (w:World) (H:Hp) (s:Shared) (Q:VK) (E:XK) (r:Result) (s':Shared):Prop:=
 match r with
 |.ok (.ret u)=>CE outer P w H s Q u s'
 |.ok _=>False
 |.error e=>CX outer H s E e s'
structure BE (P:Program) (w:World) (K:PySem.W.Frag) (mg:Str->Option Value) (base:Heap) (CX:CXT) (k:Nat) (f:Addr) (fd:FuncData) (ps:List Str) (sp:Sp):Prop where
 len:∀vs H Q E,sp vs H Q E->vs.length=ps.length
 run:∀(A:Around) (outer:List Env) (s:Shared) (H:Hp) (args:Args) (us:List Value) (vs:List V) (Q:VK) (E:XK),vD k A->uG P w K mg base A outer s H->BindsTo s fd args (ps.zip us)->sC vs us->sp vs H Q E->
  codeAny (model P w) A (.call (.ref f) args) (CR CX outer P w H s Q E) s
theorem BE.imp {P:Program} {w:World} {K:PySem.W.Frag} {mg:Str->Option Value} {base:Heap} {CX:CXT} {k:Nat} {f:Addr} {fd:FuncData} {ps:List Str} {sp sp':Sp} (F:BE P w K mg base CX k f fd ps sp)
  (h:∀vs H Q E,sp' vs H Q E->sp vs H Q E):BE P w K mg base CX k f fd ps sp':=
 ⟨λvs H Q E q=>F.len vs H Q E (h _ _ _ _ q),λA outer s H args us vs Q E hr he hb hv hs=>F.run A outer s H args us vs Q E hr he hb hv (h _ _ _ _ hs)⟩
theorem uG.make {P:Program} {w:World} {K:PySem.W.Frag} {mg:Str->Option Value} {base:Heap} {A:Around} {outer:List Env} {s:Shared} {H:Hp} (e:uG P w K mg base A outer s H) (C:Addr) (us:List Value) (kw:List (Str×Value)):
 uG P w K mg base (A.under (.builtin "type.__call__" ⟨.ref C::us,kw⟩)) outer s H:=⟨by first|exact e.frames|(simpa[Around.under,Code.envs,Code.isFrame,pushEnvs] using e.frames),e.mod,e.bs,e.bsz,e.funs,e.frf,e.hok,e.bare⟩
section
variable {X:Cx} {pins:List (Addr×Obj)} {σ:St} {H:Hp} {s s':Shared}
theorem kC.env0 (I:kC X pins σ H s):uG X.prog X.w X.K X.mg X.base X.A X.stack s H:=
 ⟨I.ok.frames,I.ok.mod,I.bs,dB I.ok.bsz I.sz,I.stack,I.stkFree,I.hok,I.bare⟩
theorem kC.after {Q:VK} {u:Value} (I:kC X pins σ H s) (h:CE X.stack X.prog X.w H s Q u s'):EP X pins σ Q u s':=by
 obtain⟨v,H',os,bare,un,hok,r,q⟩:=h;obtain⟨hh,g,d,t,os'⟩:=s';obtain rfl:os'=s.os:=os;exact⟨v,H',I.call (h':=hh) (g':=g) (d':=d) (t':=t) (ch:=[]) un hok bare (λb z=>absurd z (by simp)),r,q⟩
end
def RD (K:PySem.W.Frag) (fd:FuncData) (ps:List Str) (ds:List Value):Prop:=
 ∀(s:Shared) (us:List Value),K.In s.heap->(us++ds).length=ps.length->BindsTo s fd ⟨us,[]⟩ (ps.zip (us++ds))
theorem RD.all {K:PySem.W.Frag} {fd:FuncData} {ps:List Str} (h:∀us:List Value,us.length=ps.length->bindArgs fd ⟨us,[]⟩=pure (ps.zip us)):RD K fd ps []:=λs us ο hl=>by
 rw[GB] at hl ⊢;exact .of_eq (h us hl)
section
variable {X:Cx} {CX:CXT} {k:Nat} {f C:Addr} {fd:FuncData} {ps:List Str} {sp:Sp} {dvs:List V} {ds:List Value} {E:XK} {x m:Str} {p pos apos:Pos} {e o:Expr} {es:List Expr} {ta:TE} {t:TA}
structure Mk (K:PySem.W.Frag) (C f:Addr):Prop where
 makes:PySem.W.makesIn K C=true
 init:PySem.W.findIn K (.ref C) "__init__"=some (some (.ref f))
 fn:PySem.W.isFn K (.ref f)=true
 kp:PySem.W.keepIn K (.ref C)=true
end
section
variable {X:Cx} {CX:CXT} {k:Nat} {f C:Addr} {fd:FuncData} {ps ks:List Str} {sp:Sp} {E:XK} {x m:Str} {p pos apos kpos:Pos} {e o:Expr} {es:List Expr} {kws:List Keyword} {te ta:TE} {t tk:TA} {nm:Option Str}
variable {g:List Value->List Value->List Value} {gV:List V->List V->List V}
end
structure fC (N P:List Str) (sc:Scope):Prop where
 kind:sc.kind=.function
 co:sc.isCoroutine=false
 gen:sc.isGenerator=false
 nd:N.Nodup
 pre:N.take P.length=P
 par:∀x∈P,sc.names.lookup x=some .local\/sc.names.lookup x=some .cell
 nofree:∀y∈sc.names,y.2≠.free
theorem M3 {kindOf:Str->Option NameKind} {x:Str}:∀{binds:List (Str×Value)} {m:Str->Option Value},(∀v,(x,v)∉binds)->bindL kindOf binds m x=m x
 |[],_,_=>rfl
 |(n,v)::r,m,h=>by
  unfold bindL;rw[M3 λw hw=>h w (xA _ hw)]
  split
  ·have:x≠n:=by rintro rfl;exact h v qA
   simp[this]
  ·rfl
theorem N3 {kindOf:Str->Option NameKind} {x:Str}:∀{binds:List (Str×Value)} {m:Str->Option Value},(∀v,(x,v)∉binds)->bindC kindOf binds m x=m x
 |[],_,_=>rfl
 |(n,v)::r,m,h=>by
  unfold bindC;rw[N3 λw hw=>h w (xA _ hw)]
  split
  ·rfl
  ·have:x≠n:=by rintro rfl;exact h v qA
   simp[this]
theorem O3 {kindOf:Str->Option NameKind} {x:Str} {v:Value}:∀{P:List Str} {vs:List Value} {i:Nat} {m:Str->Option Value},P.Nodup->P[i]?=some x->vs[i]?=some v->kindOf x=some .local->
  bindL kindOf (P.zip vs) m x=some v
 |[],_,_,_,_,h,_,_=>by simp at h
 |_::_,[],_,_,_,_,h,_=>by simp at h
 |p::P,w::vs,0,m,nd,h1,h2,hk=>by
  simp at h1 h2;subst h1;subst h2;show bindL kindOf ((p,w)::P.zip vs) m p=_;unfold bindL;rw[M3 λv hv=>(OA.mp nd).1 (List.of_mem_zip hv).1,iA hk];simp
 |p::P,w::vs,i+1,m,nd,h1,h2,hk=>by
  show bindL kindOf ((p,w)::P.zip vs) m x=_;unfold bindL;exact O3 (i:=i) (OA.mp nd).2 (by simpa using h1) (by simpa using h2) hk
theorem P3 {kindOf:Str->Option NameKind} {x:Str} {v:Value}:∀{P:List Str} {vs:List Value} {i:Nat} {m:Str->Option Value},P.Nodup->P[i]?=some x->vs[i]?=some v->kindOf x≠some .local->
  bindC kindOf (P.zip vs) m x=some v
 |[],_,_,_,_,h,_,_=>by simp at h
 |_::_,[],_,_,_,_,h,_=>by simp at h
 |p::P,w::vs,0,m,nd,h1,h2,hk=>by
  simp at h1 h2;subst h1;subst h2;show bindC kindOf ((p,w)::P.zip vs) m p=_;unfold bindC;rw[N3 λv hv=>(OA.mp nd).1 (List.of_mem_zip hv).1,fA hk];simp
 |p::P,w::vs,i+1,m,nd,h1,h2,hk=>by
  show bindC kindOf ((p,w)::P.zip vs) m x=_;unfold bindC;exact P3 (i:=i) (OA.mp nd).2 (by simpa using h1) (by simpa using h2) hk
def wE (N:List Str) (vs:List V):St:=vs.map some++List.replicate (N.length - vs.length) none
def SD (CX:CXT) (P:Program) (w:World) (K:PySem.W.Frag) (mg:Str->Option Value) (base:Heap) (N:List Str) (qual:Str) (scope:Scope) (f:Addr) (cd:Value) (A:Around) (outer:List Env) (s:Shared) (H:Hp) (E:XK):Cx where
 prog:=P
 w:=w
 K:=K
 mg:=mg
 base:=base
 A:=A.deeper (envOfC qual scope s.heap.objs.size f cd)
 N:=N
 s₀:=s
 H₀:=H
 env:=envOfC qual scope s.heap.objs.size f cd
 outer:=outer
 stack:=envOfC qual scope s.heap.objs.size f cd::outer
 ex:=[]
 calm:=true
 fn:=λο=>true
 pn:=[]
 xe:=λe s'=>wpAny (model P w) (A.deeper (envOfC qual scope s.heap.objs.size f cd)) (leaving (envOfC qual scope s.heap.objs.size f cd) e) (λο s''=>CX outer H s E e s'') (λe' s''=>CX outer H s E e' s'') s'
theorem Q3 {sc:Scope} {n:Nat} {x:Str} (h:sc.names.lookup x=some .cell):∃c,(cellsFrom n sc.names []).lookup x=some c:=by
 have q:=PySem.W.cellsFrom_some sc.names n [] (.inl h);exact Option.isSome_iff_exists.mp q
theorem ic {CX:CXT} {P:Program} {w:World} {K:PySem.W.Frag} {mg:Str->Option Value} {base:Heap} {N ps:List Str} {qual:Str} {scope:Scope} {f:Addr} {cd:Value} {A:Around} {outer:List Env} {s s1:Shared} {H:Hp} {E:XK} {us:List Value} {vs:List V}
  (S:fC N ps scope) (hd:A.handled=none) (e0:uG P w K mg base A outer s H) (hl:vs.length=ps.length) (r:sC vs us)
  (x:InCallC s s.heap.objs.size (bindL (envOfC qual scope s.heap.objs.size f cd).kindOf (ps.zip us) λο=>none) (cellsFrom (s.heap.objs.size+1) scope.names []) (bindC (envOfC qual scope s.heap.objs.size f cd).kindOf (ps.zip us) λο=>none) s1):
  kC (SD CX P w K mg base N qual scope f cd A outer s H E) [] (wE N vs) H s1:=by
 have hpl:ps.length<=N.length:=by have:=congrArg List.length S.pre;rw[cB] at this;omega
 obtain⟨h1,tk,rfl,hk⟩:=x.done;have noA:∀b:Addr,b∉(SD CX P w K mg base N qual scope f cd A outer s H E).ex:=λb z=>absurd (show b∈([]:List Addr) from z) (by simp);refine⟨⟨e0.mod,S.kind,rfl,rfl,kA _,λy z c h1 h2=>?_,λy hy=>?_,λy c ο h=>?_,λο=>hd,Around.frames_deeper e0.frames,.inr ⟨rfl,rfl⟩,λb z=>absurd z (noA b),e0.bs,e0.bsz,λb ο ο=>noA b,λb z=>absurd z (noA b),e0.funs,e0.frf⟩,
  rfl,e0.bare,Un.kept hk,⟨_,x.toInCall.ns,λi y v h1 h2 h3=>?_⟩,λy c h=>⟨_,x.cell y c h⟩,e0.hok.fresh (kA _),λy c h=>?_,λp hp=>absurd (show p∈([]:List (Addr×Obj)) from hp) (by simp),e0.hok.kept hk,?_⟩
 ·exact name_of_addr x.apart (PySem.mem_of_lookup h1) (PySem.mem_of_lookup h2)
 ·have hy:scope.names.lookup y=some .cell\/scope.names.lookup y=some .free:=hy;rcases hy with hy|hy
  ·exact Q3 hy
  ·exact absurd rfl (S.nofree _ (PySem.mem_of_lookup hy))
 ·exact Nat.le_of_lt (x.above y c (PySem.mem_of_lookup h))
 ·have hi:i < vs.length:=by
   unfold wE at h2;by_cases hi:i < vs.length
   ·exact hi
   ·rw[lB (by simpa using hi)] at h2;rw[List.getElem?_replicate] at h2
    split at h2<;>cases h2
  have ha:vs[i]?=some v:=by
   unfold wE at h2;rw[List.getElem?_append_left (by simpa using hi),QA] at h2;cases e:vs[i]? with
   |none=>rw[e] at h2;cases h2
   |some a=>rw[e] at h2;cases h2;rfl
  obtain⟨u,hu,rv⟩:=r.get ha;have hp:ps[i]?=some y:=by
   rw[<-S.pre,List.getElem?_take_of_lt ⋯];exact h1
  have ndP:ps.Nodup:=by rw[<-S.pre];exact S.nd.sublist (jB _ _)
  refine⟨u,rv,?_⟩;rcases S.par y (JA hp) with k|k
  ·exact .inl ⟨k,O3 ndP hp hu k⟩
  ·obtain⟨c,e⟩:=Q3 (n:=s.heap.objs.size+1) k;refine .inr ⟨.inl k,c,e,?_⟩;have q:=x.cell y c e;rw[P3 ndP hp hu (by show scope.names.lookup y≠_;rw[k];decide)] at q;exact q
 ·exact e0.hok.fresh (Nat.le_of_lt (x.above y c (PySem.mem_of_lookup h)))
 ·unfold wE;show _=N.length;rw[oA,cA,rB];omega
theorem VQ {CX:CXT} {P:Program} {w:World} {K:PySem.W.Frag} {mg:Str->Option Value} {base:Heap} {k:Nat} {f:Addr} {name qual:Str} {params:Arguments} {body:List Stmt} {scope:Scope} {dV kV doc pm cdv ct oc:Value} {an od:Option Addr}
  {osl:Array (Option Value)} {N ps:List Str} {sp:Sp} (lk:K.lookup f=some ⟨oc,od,.func (PySem.W.fnOf name qual params body scope dV kV doc pm an cdv ct),osl⟩) (hcd:PySem.W.codeIn K cdv qual=true) (S:fC N ps scope)
  (len:∀vs H Q E,sp vs H Q E->vs.length=ps.length)
  (hbody:∀(A:Around) (outer:List Env) (s:Shared) (H:Hp) (vs:List V) (Q:VK) (E:XK),vD k (A.deeper (envOfC qual scope s.heap.objs.size f cdv))->sp vs H Q E->
   ∃t,YF (SD CX P w K mg base N qual scope f cdv A outer s H E) body t/\t {nx:=λο H'=>Q .non H',rt:=Q} (wE N vs) H):
  BE P w K mg base CX (k+1) f (PySem.W.fnOf name qual params body scope dV kV doc pm an cdv ct) ps sp:=by
 refine⟨len,λA outer s H args us vs Q E hr e0 hb r hsp=>?_⟩;have hl:=len _ _ _ _ hsp;have KX:K.In s.heap:=e0.mod.kin.keeps λb o e=>(e0.bs b o e).1;have lim:s.heap.NoLimit:=e0.mod.nolimit.keeps λb o e=>(e0.bs b o e).1;have hkind:∀y∈ps.zip us,scope.names.lookup y.1=some .local\/(scope.names.lookup y.1=some .cell/\((cellsFrom (s.heap.objs.size+1) scope.names []).lookup y.1).isSome=true):=λ⟨n,v⟩ hy=>by
  rcases S.par n (List.of_mem_zip hy).1 with q|q
  ·exact .inl q
  ·exact .inr ⟨q,PySem.W.cellsFrom_some _ _ _ (.inl q)⟩
 refine codeAny_call_function hr.depth (KX _ _ lk) rfl S.co S.gen rfl (PySem.W.codeRec_of KX hcd) (hb _ _ _ _ ?_);refine wpAny_newFunctionEnv_cells S.kind hkind λenv he s1 x=>?_;subst he;refine⟨lim.keeps x.toInCall.keep,codeAny_func ?_⟩;obtain⟨t,ht,hq⟩:=hbody A outer s H vs Q E (hr.deeper _) hsp;have I:kC (SD CX P w K mg base N qual scope f cdv A outer s H E) [] (wE N vs) H s1:=ic S hr.hd e0 hl r x;refine mB (ht [] s1 (wE N vs) H _ I hq) (λfl s' hs=>?_) λe s' hs=>hs;have fin:∀{σ':St} {H':Hp} {v:V} {u:Value},kC (SD CX P w K mg base N qual scope f cdv A outer s H E) [] σ' H' s'->pC v u->Q v H'->CE outer P w H s Q u s':=
  λ{σ' H' v u} J rv q=>⟨v,H',J.os,J.bare,J.base,J.hok,rv,q⟩
 cases fl with
 |ret u=>
  obtain⟨v,σ',H',J,rv,q⟩:=hs;exact fin J rv q
 |next=>
  obtain⟨σ',H',J,q⟩:=hs;exact fin (v:=V.non) (u:=Value.none) J rfl q
 |brk=>
  obtain⟨_,_,_,q⟩:=hs;exact False.elim q
 |cont=>
  obtain⟨_,_,_,q⟩:=hs;exact False.elim q
end L2
namespace L2
open PySem PySem.Spec PyProof.Rows
section
variable {X:Cx} {x:Str} {p pos:Pos} {e:Expr} {es:List Expr} {t:TA} {id T:String} {r:List V->Hp->VK->Prop}
def WQ (r:List V->Hp->VK->Prop) (t:TA):TE:=λσ H Q=>t σ H λvs H1=>r vs H1 Q
theorem rF (hc:QD X (.builtin id) r) (hg:Gl X x) (hm:X.mg x=none) (hv:bootBuiltins x=some (.builtin id)) (ha:PA X (e::es) t) (hn:x≠"__name__":=by decide) (hdb:(x == ("__debug__":Str))=false:=by decide)
  (he:starEach (e::es) X.env=(false,eval e X.env)::starEach es X.env:=by rfl) (hpl:(backTo pos (starEach es X.env)).any (·.1)=false:=by rfl):PE X (.Call (.Name x p) (e::es) [] pos) (WQ r t):=by
 intro pins s σ H Q I h;refine wpAny_Call_Name_kw (AM I hg hm hv ?_ hn hdb);exact PyProof.Rows.callWith_builtin1 (KC (ha pos pins s σ H _ I h) λus s1 ⟨vs,H1,I1,r1,q1⟩=>hc pins s1 σ H1 vs us Q I1 r1 q1) he hpl
theorem iI (hc:QD X (.type T) r) (hg:Gl X x) (hm:X.mg x=none) (hv:bootBuiltins x=some (.type T)) (ha:PA X (e::es) t) (hn:x≠"__name__":=by decide) (hdb:(x == ("__debug__":Str))=false:=by decide)
  (he:starEach (e::es) X.env=(false,eval e X.env)::starEach es X.env:=by rfl) (hpl:(backTo pos (starEach es X.env)).any (·.1)=false:=by rfl):PE X (.Call (.Name x p) (e::es) [] pos) (WQ r t):=by
 intro pins s σ H Q I h;refine wpAny_Call_Name_kw (AM I hg hm hv ?_ hn hdb);exact UB (KC (ha pos pins s σ H _ I h) λus s1 ⟨vs,H1,I1,r1,q1⟩=>hc pins s1 σ H1 vs us Q I1 r1 q1) he hpl
end
end L2
namespace HT
open PySem PyProof.Rows
section
open PySem.SeqAt
open PySem.AutoSeq1 (wpAny_loadPart')
open PySem.MeetsSeq PySem.MeetsSeq2 PySem.MeetsSeq3
end
section
variable {prog:Program} {w:World} {A:Around} {E:Value->Shared->Prop} {s:Shared}
def vG (n d:Nat):Option Int->Nat
 |none=>d
 |some v=>if v < 0 then (v+(n:Int)).toNat else min v.toNat n
end
end HT
namespace L2
open PySem PySem.Spec PyProof.Rows
noncomputable abbrev TO:=St->Hp->(Option Int->Hp->Prop)->Prop
def PO (X:Cx) (e:Option Expr) (t:TO):Prop:=
 ∀(pins:List (Addr×Obj)) (s:Shared) (σ:St) (H:Hp) (Q:Option Int->Hp->Prop),kC X pins σ H s->t σ H Q->
  wpAny (model X.prog X.w) X.A (evalPart e X.env) (λu s'=>∃o H',kC X pins σ H' s'/\IsPart u o/\Q o H') X.xe s
def tNoPart:TO:=λο H Q=>Q none H
def qJ (t:TE):TO:=λσ H Q=>t σ H λx H1=>∃i,x=.int i/\Q (some i) H1
section
variable {X:Cx} {e:Expr} {te:TE} {lo hi:Option Expr} {tl th:TO} {pos p2:Pos}
theorem R3:PO X none tNoPart:=by
 intro pins s σ H Q I h;rw[evalPart_none];exact EA ⟨none,H,I,.none,h⟩
theorem rJ (h:PE X e te):PO X (some e) (qJ te):=by
 intro pins s σ H Q I hw;rw[evalPart_some];refine KC (h pins s σ H _ I hw) λu s1 zz=>?_;obtain⟨x,H1,I1,r1,q1⟩:=zz;obtain⟨i,rfl,q⟩:=q1;obtain⟨t,rfl⟩:=r1;exact⟨some i,H1,I1,.int i t,q⟩
def S3 (X:Cx) (r:V->Option Int->Option Int->Hp->VK->Prop):Prop:=
 ∀(pins:List (Addr×Obj)) (s:Shared) (σ:St) (H:Hp) (x:V) (v vl vu:Value) (lo hi:Option Int) (sl:Addr) (Q:VK),kC X pins σ H s->pC x v->s.heap.IsSliceOf sl vl vu .none->IsPart vl lo->IsPart vu hi->r x lo hi H Q->
  ∃T id,typeLookup (.type T) "__getitem__"=pure (some (.builtin id))/\s.TypeIs v T/\wpAny (model X.prog X.w) X.A (getItem v (.ref sl)) (EP X pins σ Q) X.xe s
def T3 (r:V->Option Int->Option Int->Hp->VK->Prop) (te:TE) (tl th:TO):TE:=λσ H Q=>te σ H λx H1=>tl σ H1 λl H2=>th σ H2 λu H3=>r x l u H3 Q
theorem AN {r:V->Option Int->Option Int->Hp->VK->Prop} (hr:S3 X r) (he:PE X e te) (hl:PO X lo tl) (hu:PO X hi th):PE X (.Subscript e (.Slice lo hi none p2) pos) (T3 r te tl th):=by
 intro pins s σ H Q I h;refine Subscript_ (KC (he pins s σ H _ I h) λv s1 zz=>?_);obtain⟨x,H1,I1,r1,q1⟩:=zz;refine wpAny_Slice (KC (hl pins s1 σ H1 _ I1 q1) λvl s2 ⟨l,H2,I2,pl,q2⟩=>KC (hu pins s2 σ H2 _ I2 q2) λvu s3 zz=>?_);obtain⟨u,H3,I3,pu,q3⟩:=zz;rw[evalPart_none];refine EA ?_;have I4:kC X pins σ H3 {s3 with heap:=s3.heap.push {cls:=.type "slice",data:=.fields #[vl,vu,.none]}}:=I3.kept (t':=s3.toks) λb ob q=>uA _ q;obtain⟨T,id,hT,ht,hg⟩:=hr pins {s3 with heap:=s3.heap.push {cls:=.type "slice",data:=.fields #[vl,vu,.none]}} σ H3 x v vl vu l u s3.heap.objs.size Q I4 r1 (Heap.IsSliceOf.new ..) pl pu q3;show wpAny (model X.prog X.w) X.A (subscriptTail e (.Slice lo hi none p2) v (.ref s3.heap.objs.size)) (EP X pins σ Q) X.xe {s3 with heap:=s3.heap.push {cls:=.type "slice",data:=.fields #[vl,vu,.none]}};exact tail_any (ops:=[.ref s3.heap.objs.size,v]) ht hT hg (by with_unfolding_all rfl)
def DE (xs:List V) (lo hi:Option Int):List V:=(xs.drop (HT.vG xs.length 0 lo)).take (HT.vG xs.length xs.length hi - HT.vG xs.length 0 lo)
theorem jc (xs:List V) (lo hi:Option Int):(DE xs lo hi).length<=xs.length:=by
 unfold DE;rw[cB,List.length_drop];omega
end
end L2
namespace L2
open PySem PySem.Spec PyProof.Rows
def wH (n:Nat) (i:Int):Option Nat:=if 0<=i then (if i < n then some i.toNat else none) else if -(n:Int)<=i then some (i+n).toNat else none
def oG {α:Type} (xs:List α) (i:Int):Option α:=(wH xs.length i).bind λj=>xs[j]?
theorem U3 {n:Nat} {i:Int} {j:Nat} (h:wH n i=some j):seqIndex? i n=some j/\j < n/\ -(n:Int)<=i/\i < n:=by
 unfold wH at h;by_cases h0:0<=i
 ·rw[iA h0] at h;by_cases h1:i < n
  ·rw[iA h1] at h;have e:i.toNat=j:=rA h;exact⟨by rw[seqIndex_of h0 h1,e],⋯,⋯,h1⟩
  ·rw[fA h1] at h;cases h
 ·rw[fA h0] at h;by_cases h1: -(n:Int)<=i
  ·rw[iA h1] at h;have e:(i+n).toNat=j:=rA h;exact⟨by rw[seqIndex_neg ⋯ h1,e],⋯,h1,⋯⟩
  ·rw[fA h1] at h;cases h
theorem V3 {α:Type} {xs:List α} {i:Int} {v:α} (h:oG xs i=some v):∃j,seqIndex? i xs.length=some j/\xs[j]?=some v/\j < xs.length/\ -(xs.length:Int)<=i/\i < xs.length:=by
 unfold oG at h;cases e:wH xs.length i with
 |none=>rw[e] at h;cases h
 |some j=>
  rw[e] at h;obtain⟨h1,h2,h3,h4⟩:=U3 e;exact⟨j,h1,h,h2,h3,h4⟩
theorem FI {α:Type} {xs:List α} {j:Nat} {v:α} (h:xs[j]?=some v):oG xs (j:Int)=some v:=by
 have hj:j < xs.length:=(IA.mp h).1;have e:wH xs.length (j:Int)=some j:=by
  unfold wH;rw[iA ⋯,iA ⋯];simp
 unfold oG;rw[e];exact h
def GI (b:Expr):Prop:=∀o i,subscripted b false o i=operate [o,i] (getItem o i)
def BN (X:Cx) (r:R2):Prop:=
 ∀(value slice:Expr) (pins:List (Addr×Obj)) (s:Shared) (σ:St) (H:Hp) (x y:V) (v u:Value) (Q:VK),kC X pins σ H s->pC x v->pC y u->r x y H Q->
  subscripted slice false v u=operate [v,u] (getItem v u)->wpAny (model X.prog X.w) X.A (subscriptTail value slice v u) (EP X pins σ Q) X.xe s
def W3 (X:Cx) (id:String) (r:V->List V->Hp->VK->Prop):Prop:=
 ∀(pins:List (Addr×Obj)) (s:Shared) (σ:St) (H:Hp) (x:V) (xs:List V) (v:Value) (us:List Value) (Q:VK),kC X pins σ H s->pC x v->sC xs us->r x xs H Q->
  wpAny (model X.prog X.w) X.A (call (.builtin id) (v::us)) (EP X pins σ Q) X.xe s
section
variable {X:Cx} {a b:Expr} {ta tb:TE} {pos:Pos}
theorem GD {r:R2} (hr:BN X r) (ha:PE X a ta) (hb:PE X b tb) (hs:GI b):PE X (.Subscript a b pos) (rN r ta tb):=by
 intro pins s σ H Q I h;exact Subscript_ (DK ha hb I h λv u s2 x y H2 I2 rx ry q=>hr a b pins s2 σ H2 x y v u Q I2 rx ry q (hs _ _))
def CN (K:PySem.W.Frag):R2:=λx y H Q=>∃p xs i v,x=.ref p/\y=.int i/\QC K H p xs/\oG xs i=some v/\Q v H
def JK (K:PySem.W.Frag):R2:=λx y H Q=>∃p xs i v,x=.ref p/\y=.int i/\ZC K H p xs/\oG xs i=some v/\Q v H
theorem jI:BN X (CN X.K):=by
 intro value slice pins s σ H x y v u Q I rx ry h hs;obtain⟨p,xs,i,z,rfl,rfl,hq,he,q⟩:=h;cases rx;obtain⟨t,rfl⟩:=ry;obtain⟨its,r,pl,hz⟩:=I.list hq;obtain⟨j,h1,h2,h3,h4,h5⟩:=V3 he;obtain⟨w,ew,rw'⟩:=r.get h2;have hl:=r.length;have hn:=NF;have fin:EP X pins σ Q w s:=⟨z,H,I,rw',q⟩
 by_cases h0:0<=i
 ·have hj:i.toNat=j:=by
   rw[seqIndex_of h0 h5] at h1;exact rA h1
  exact item_listR pl.isList h0 ⋯ (by rw[hj];simpa using ew) fin hs
 ·have hj:(i+(its.toArray.size:Int)).toNat=j:=by
   rw[seqIndex_neg ⋯ h4] at h1;rw[CA,<-hl];exact rA h1
  exact subscriptTail_builtinR (x:=w) pl.isList.typeIs slot_list_getitem.lookup
   (wpAny_getItem_list_neg (Q:=λr s'=>r=w/\EP X pins σ Q r s') pl.isList ⋯ (by rw[CA]<;>omega) ⋯ (by rw[hj];simpa using ew) ⟨rfl,fin⟩) hs
theorem fE:BN X (JK X.K):=by
 intro value slice pins s σ H x y v u Q I rx ry h hs;obtain⟨p,xs,i,z,rfl,rfl,hq,he,q⟩:=h;cases rx;obtain⟨t,rfl⟩:=ry;obtain⟨its,r,pl,hz⟩:=I.tuple hq;obtain⟨j,h1,h2,h3,h4,h5⟩:=V3 he;obtain⟨w,ew,rw'⟩:=r.get h2;have hl:=r.length;have hn:=NF;have fin:EP X pins σ Q w s:=⟨z,H,I,rw',q⟩
 exact subscriptTail_builtinR (x:=w) pl.typeIs slot_tuple_getitem.lookup
  (getItem_tuple (j:=j) (Q:=λr s'=>r=w/\EP X pins σ Q r s') pl ⋯ ⋯ (by rw[CA,<-hl];exact h1) (by simpa using ew) ⟨rfl,fin⟩) hs
theorem lc (its:List Value) (n j:Nat) (u:Value):Obj.mapSeq (·.setIfInBounds j u) {cls:=.type "list",data:=.seq its.toArray n}={cls:=.type "list",data:=.seq (its.set j u).toArray n}:=by
 simp[Obj.mapSeq]
theorem kC.lst {pins:List (Addr×Obj)} {σ:St} {H:Hp} {s:Shared} {p:Addr} {xs:List V} (I:kC X pins σ H s) (h:H p=some (.lst xs)):
  ∃(its:List Value) (n:Nat),sC xs its/\s.heap.get? p=some {cls:=.type "list",data:=.seq its.toArray n}/\xs.length<=sizeLine:=by
 obtain⟨z,its,n,r,e⟩:=I.hok p _ h;exact⟨its,n,r,e,z⟩
theorem kC.lstUpd {pins:List (Addr×Obj)} {σ:St} {H:Hp} {s:Shared} {p:Addr} {xs ys:List V} {its its':List Value} {n n':Nat} {f:Obj->Obj} (I:kC X pins σ H s) (h:H p=some (.lst xs))
  (ho:s.heap.get? p=some {cls:=.type "list",data:=.seq its.toArray n}) (hf:f {cls:=.type "list",data:=.seq its.toArray n}={cls:=.type "list",data:=.seq its'.toArray n'}) (r:sC ys its') (hz:ys.length<=sizeLine) (t:Nat):
  kC X pins σ (jC H p (.lst ys)) {s with heap:=s.heap.update p f,toks:=t}:=by
 have e:(s.heap.update p f).get? p=some {cls:=.type "list",data:=.seq its'.toArray n'}:=by
  rw[Heap.get?_update_self f ho (by rw[hf]<;>rfl),hf]
 refine I.write (x:=p) (e:=p) (by rw[h];trivial) (.inl rfl) (λb u hb q=>(yB _ _ (Ne.symm hb)).trans q) ⟨_,e⟩ ?_;exact⟨hz,its',n',r,e⟩
def rSetL:V->V->V->Hp->(Hp->Prop)->Prop:=λo i v H Q=>∃p xs k j,o=.ref p/\i=.int k/\H p=some (.lst xs)/\wH xs.length k=some j/\Q (jC H p (.lst (xs.set j v)))
theorem X3:nN X rSetL:=by
 intro pins s σ H o i v ov iv u Q I ro ri rv h;obtain⟨p,xs,k,j,rfl,rfl,hp,hj,q⟩:=h;cases ro;obtain⟨t,rfl⟩:=ri;obtain⟨its,n,r,ho,hz⟩:=I.lst hp;obtain⟨h1,h2,h3,h4⟩:=U3 hj;have hl:=r.length;have hn:=NF;have I':kC X pins σ (jC H p (.lst (xs.set j v))) {s with heap:=s.heap.update p (Obj.mapSeq (·.setIfInBounds j u))}:=
  I.lstUpd hp ho (lc its n j u) (r.set rv j) (by rw[List.length_set];exact hz) s.toks
 by_cases h0:0<=k
 ·have hk:k.toNat=j:=by
   rw[seqIndex_of h0 h4] at h1;exact rA h1
  exact PySem.W.ki_setAt ho h0 ⋯ (by rw[CA,<-hl];exact h4) (by rw[hk];exact⟨_,I',q⟩)
 ·have hk:(k+(its.toArray.size:Int)).toNat=j:=by
   rw[seqIndex_neg ⋯ h3] at h1;rw[CA,<-hl];exact rA h1
  exact PySem.W.ki_setBack ho ⋯ (by rw[CA,<-hl];exact h3) ⋯ (by rw[hk];exact⟨_,I',q⟩)
theorem qc (lo hi:Option Int) (n:Nat):(sliceBounds lo hi none n).1=((HT.vG n 0 lo:Nat):Int)/\(sliceBounds lo hi none n).2.1=((HT.vG n n hi:Nat):Int)/\(sliceBounds lo hi none n).2.2=1:=by
 refine⟨?_,?_,rfl⟩
 ·cases lo with
  |none=>simp[sliceBounds,HT.vG]
  |some i=>
   simp only[sliceBounds,HT.vG,Option.getD_none,show (1:Int) > 0 by decide,if_true];by_cases h:i < 0
   ·simp only[h,if_true]<;>omega
   ·simp only[h,bC]<;>omega
 ·cases hi with
  |none=>simp[sliceBounds,HT.vG]
  |some i=>
   simp only[sliceBounds,HT.vG,Option.getD_none,show (1:Int) > 0 by decide,if_true];by_cases h:i < 0
   ·simp only[h,if_true]<;>omega
   ·simp only[h,bC]<;>omega
theorem uc (its:List Value) (lo hi:Option Int):slicePick its.toArray lo hi none=((its.drop (HT.vG its.length 0 lo)).take (HT.vG its.length its.length hi - HT.vG its.length 0 lo)).toArray:=by
 obtain⟨h1,h2,h3⟩:=qc lo hi its.toArray.size;unfold slicePick;rw[h1,h2,h3];simp only[sliceRange_one,pick_run,CA]<;>rfl
def DN (K:PySem.W.Frag):V->Option Int->Option Int->Hp->VK->Prop:=λx lo hi H Q=>∃a xs,x=.ref a/\QC K H a xs/\∀p,H p=none->Q (.ref p) (jC H p (.lst (DE xs lo hi)))
theorem EN:S3 X (DN X.K):=by
 intro pins s σ H x v vl vu lo hi sl Q I rx hs pl pu h;obtain⟨a,xs,rfl,hx,q⟩:=h;cases rx;obtain⟨its,r,ht,hz⟩:=I.list hx;have hlen:=r.length;refine⟨"list",_,slot_list_getitem.lookup,ht.isList.typeIs,?_⟩;refine wpAny_getItem_list_slice ht.isList hs pl pu .none (by simp) ?_ (by rw[CA]<;>omega);rw[uc,<-hlen];refine⟨.ref s.heap.objs.size,_,I.laid (t':=s.toks) (o:=.lst (DE xs lo hi)) (λb ob q=>uA _ q) (kA _) ?_,rfl,q _ (I.hok.fresh (kA _))⟩;exact⟨dB (jc xs lo hi) hz,_,0,(r.drop (HT.vG xs.length 0 lo)).take (HT.vG xs.length xs.length hi - HT.vG xs.length 0 lo),FA _ rfl⟩
def dG:V->Bool
 |.non=>true
 |.bl _=>true
 |.int _=>true
 |.str _=>true
 |_=>false
def FN:V->V->Bool
 |.non,.non=>true
 |.bl a,.bl b=>a == b
 |.bl a,.int b=>(if a then 1 else 0) == b
 |.int a,.bl b=>a == (if b then 1 else 0)
 |.int a,.int b=>a == b
 |.str a,.str b=>a == b
 |_,_=>false
theorem LK {A:Around} {s:Shared} {y x:V} {u v:Value} (ry:pC y u) (rx:pC x v) (fy:dG y=true) (fx:dG x=true):SeqAt.EqAt A s u v (FN y x):=by
 cases y with
 |non=>
  cases ry;cases x with
  |non=>cases rx;exact SeqAt.EqAt.same _
  |bl b=>cases rx;exact SeqAt.EqAt.none_bool b
  |int b=>obtain⟨t,rfl⟩:=rx;exact SeqAt.EqAt.none_int b t
  |str b=>obtain⟨t,rfl⟩:=rx;exact SeqAt.EqAt.none_str b t
  |_=>exact absurd (show false=true from fx) wA
 |bl a=>
  cases ry;cases x with
  |non=>cases rx;exact SeqAt.EqAt.bool_none a
  |bl b=>cases rx;exact SeqAt.EqAt.bool_bool a b
  |int b=>obtain⟨t,rfl⟩:=rx;exact SeqAt.EqAt.bool_int a b t
  |str b=>obtain⟨t,rfl⟩:=rx;exact SeqAt.EqAt.bool_str a b t
  |_=>exact absurd (show false=true from fx) wA
 |int a=>
  obtain⟨t',rfl⟩:=ry;cases x with
  |non=>cases rx;exact SeqAt.EqAt.int_none a t'
  |bl b=>cases rx;exact SeqAt.EqAt.int_bool a t' b
  |int b=>obtain⟨t,rfl⟩:=rx;exact SeqAt.EqAt.int_int a t' b t
  |str b=>obtain⟨t,rfl⟩:=rx;exact SeqAt.EqAt.int_str a t' b t
  |_=>exact absurd (show false=true from fx) wA
 |str a=>
  obtain⟨t',rfl⟩:=ry;cases x with
  |non=>cases rx;exact SeqAt.EqAt.str_none a t'
  |bl b=>cases rx;exact SeqAt.EqAt.str_bool a t' b
  |int b=>obtain⟨t,rfl⟩:=rx;exact SeqAt.EqAt.str_int a t' b t
  |str b=>obtain⟨t,rfl⟩:=rx;exact SeqAt.EqAt.str_str a t' b t
  |_=>exact absurd (show false=true from fx) wA
 |_=>exact absurd (show false=true from fy) wA
theorem GN:QD X (.type "list") (λxs H Q=>∃p ys,xs=[.ref p]/\(QC X.K H p ys\/ZC X.K H p ys)/\∀l,H l=none->Q (.ref l) (jC H l (.lst ys))):=by
 intro pins s σ H xs us Q I r h;obtain⟨p,ys,rfl,hq,q⟩:=h;obtain⟨u,rfl,rx⟩:=IE r;cases rx;have fin:∀(its:List Value),sC ys its->ys.length<=sizeLine->∀(h':Heap) (c':Nat),(∀b o',s.heap.get? b=some o'->h'.get? b=some o')->
   h'.get? s.heap.objs.size=some {cls:=.type "list",dict:=none,data:=.seq its.toArray c',slots:= #[]}->EP X pins σ Q (.ref s.heap.objs.size) {s with heap:=h'}:=λits r' hz h' c' kp e=>
  ⟨.ref s.heap.objs.size,_,I.laid (t':=s.toks) kp (kA _) (show MC X.prog X.w _ h' _ (.lst ys) from ⟨hz,its,c',r',e⟩),rfl,q _ (I.hok.fresh (kA _))⟩
 rcases hq with hq|hq
 ·obtain⟨its,r',pl,hz⟩:=I.list hq;have hlen:=r'.length;obtain⟨o,ho,hc,n,hd⟩:=pl.isList;exact call_list_seq p (.inl rfl) ho hc hd (λh' c' kp e=>fin its r' hz h' c' kp e) (by simp only[CA]<;>omega)
 ·obtain⟨its,r',pl,hz⟩:=I.tuple hq;have hlen:=r'.length;obtain⟨o,ho,hc,n,hd⟩:=pl;exact call_list_seq p (.inr rfl) ho hc hd (λh' c' kp e=>fin its r' hz h' c' kp e) (by simp only[CA]<;>omega)
theorem Y3:QD X (.type "tuple") (λxs H Q=>∃p ys,xs=[.ref p]/\((QC X.K H p ys/\∀l,H l=none->Q (.ref l) (jC H l (.tup ys)))\/(ZC X.K H p ys/\Q (.ref p) H))):=by
 intro pins s σ H xs us Q I r h;obtain⟨p,ys,rfl,h⟩:=h;obtain⟨u,rfl,rx⟩:=IE r;cases rx;rcases h with ⟨hq,q⟩|⟨hq,q⟩
 ·obtain⟨its,r',pl,hz⟩:=I.list hq;have hlen:=r'.length;refine call_tuple_list pl.isList (λh' kp=>?_) (by simp only[CA]<;>omega);have I1:kC X pins σ H {s with heap:=h'}:=I.kept (t':=s.toks) kp;have I2:kC X pins σ (jC H h'.objs.size (.tup ys)) {s with heap:=h'.push {cls:=.type "tuple",data:=.seq its.toArray}}:=
   I1.laid (t':=s.toks) (λb o e=>uA _ e) (kA _) (show MC X.prog X.w _ _ _ (.tup ys) from ⟨hz,its,r',IsTup.new _ _⟩)
  exact⟨.ref h'.objs.size,_,I2,rfl,q _ (I1.hok.fresh (kA _))⟩
 ·obtain⟨its,r',pl,hz⟩:=I.tuple hq;exact call_tuple_same pl ⟨.ref p,H,I,rfl,q⟩
def XQ (K:PySem.W.Frag) (T:String) (x:V) (H:Hp):Prop:=match x with
 |.str _=>T="str"
 |.int _=>T="int"
 |.ref p=>(T="list"/\∃xs,QC K H p xs)\/(T="tuple"/\∃o,K.lookup p=some o/\o.cls=.type "tuple"/\o.dict=none)\/
  (T="dict"/\((∃kvs,H p=some (.dK kvs))\/∃kvs,H p=some (.dT kvs)))\/(T="set"/\∃S n,H p=some (.set S n))
 |_=>False
theorem Z3 {pins:List (Addr×Obj)} {σ:St} {H:Hp} {s:Shared} {T:String} {x:V} {v:Value} (I:kC X pins σ H s) (r:pC x v) (ty:XQ X.K T x H):
  s.TypeIs v T/\∀a,v=.ref a->∃ob,s.heap.get? a=some ob/\ob.dict=none:=by
 cases x with
 |str z=>
  obtain⟨t,rfl⟩:=r;cases (show T="str" from ty);exact⟨typeIs_str s z t,λο e=>nomatch e⟩
 |int i=>
  obtain⟨t,rfl⟩:=r;cases (show T="int" from ty);exact⟨typeIs_int s i t,λο e=>nomatch e⟩
 |ref p=>
  cases r;rcases ty with ⟨rfl,xs,hq⟩|⟨rfl,o,hk,hc,hd⟩|⟨rfl,hk⟩|⟨rfl,S,n,hk⟩
  ·obtain⟨its,_,pl,_⟩:=I.list hq;refine⟨pl.isList.typeIs,λa e=>?_⟩;cases e;obtain⟨o,n,e,c,hd,_⟩:=pl;exact⟨o,e,hd⟩
  ·refine⟨⟨o,I.kIn p o hk,hc⟩,λa e=>?_⟩;cases e;exact⟨o,I.kIn _ o hk,hd⟩
  ·have z:∃o,s.heap.get? p=some o/\o.ExactDict:=by
    rcases hk with ⟨kvs,hk⟩|⟨kvs,hk⟩
    ·obtain⟨_,_,_,_,o,_,_,e,ex,_⟩:=I.hok p _ hk;exact⟨o,e,ex⟩
    ·obtain⟨_,_,_,_,o,_,_,e,ex,_⟩:=I.hok p _ hk;exact⟨o,e,ex⟩
   obtain⟨o,e,ex⟩:=z;refine⟨⟨o,e,ex.1⟩,λa e2=>?_⟩;cases e2;exact⟨o,e,ex.2.1⟩
  ·obtain⟨o,_,_,_,e,ex,_⟩:=I.hok p _ hk;refine⟨⟨o,e,ex.1⟩,λa e2=>?_⟩;cases e2;exact⟨o,e,ex.2.1⟩
 |_=>exact False.elim ty
def HN (K:PySem.W.Frag) (T:String) (r:V->List V->Hp->VK->Prop) (to:TE):TE:=λσ H Q=>to σ H λx H1=>XQ K T x H1/\r x [] H1 Q
def i4 (K:PySem.W.Frag) (T:String) (r:V->List V->Hp->VK->Prop) (to:TE) (t:TA):TE:=λσ H Q=>to σ H λx H1=>XQ K T x H1/\t σ H1 λxs H2=>r x xs H2 Q
variable {o e:Expr} {es:List Expr} {to:TE} {t:TA} {name:Str} {apos cpos:Pos} {T id:String} {r:V->List V->Hp->VK->Prop}
theorem MK (pa:PlainAttrs T) (slot:Slot T name id) (hty:typeOf (.builtin id)=pure (.type "method_descriptor")) (hm:W3 X id r) (ho:PE X o to)
  (hbase:attributeBase o name X.env (eval o X.env)=eval o X.env:=by rfl) (hline:(apos.endLine == cpos.line)=true:=by rfl):PE X (.Call (.Attribute o name apos) [] [] cpos) (HN X.K T r to):=by
 intro pins s σ H Q I h;refine wpAny_Call_method0_late hbase hline (KC (ho pins s σ H _ I h) λv s1 zz=>?_);obtain⟨x,H1,I1,r1,ty,q1⟩:=zz;obtain⟨h1,h2⟩:=Z3 I1 r1 ty;exact⟨T,id,pa,slot,hty,h1,h2,nB rfl (PySem.evalArgs_none (hm pins s1 σ H1 x [] v [] Q I1 r1 .nil q1))⟩
theorem NP (pa:PlainAttrs T) (slot:Slot T name id) (hty:typeOf (.builtin id)=pure (.type "method_descriptor")) (hm:W3 X id r) (ho:PE X o to) (ha:PA X (e::es) t)
  (hbase:attributeBase o name X.env (eval o X.env)=eval o X.env:=by rfl)
  (hfew:((backTo cpos (starEach (e::es) X.env)).all (λx=> !x.1)&&(backToKw cpos (keywordEach [] X.env)).all (λx=>x.1.isSome)
   &&decide ((e::es).length+([]:List Keyword).length+(if ([]:List Keyword).isEmpty then 0 else 1) < 30))=true:=by rfl)
  (hline:(apos.endLine == cpos.line)=true:=by rfl) (hs:starEach (e::es) X.env=(false,eval e X.env)::starEach es X.env:=by rfl) (hplain:(backTo cpos (starEach es X.env)).any (·.1)=false:=by rfl):
  PE X (.Call (.Attribute o name apos) (e::es) [] cpos) (i4 X.K T r to t):=by
 intro pins s σ H Q I h;refine wpAny_Call_method_late hbase hfew hline rfl (KC (ho pins s σ H _ I h) λv s1 zz=>?_);obtain⟨x,H1,I1,r1,ty,q1⟩:=zz;obtain⟨h1,h2⟩:=Z3 I1 r1 ty;refine⟨T,id,pa,slot,hty,h1,h2,?_⟩;have hA:=ha cpos pins s1 σ H1 _ I1 q1;rw[hs] at hA ⊢;refine nB (by show (false || (backTo cpos (starEach es X.env)).any (·.1))=false;rw[hplain]<;>rfl) (MB ?_);exact KC hA λus s2 ⟨vs,H2,I2,r2,q2⟩=>hm pins s2 σ H2 x vs v us Q I2 r1 r2 q2
end
end L2
namespace L2
open PySem PySem.Spec PyProof.Rows
def YQ (X:Cx) (id:String) (r:V->List V->Hp->VK->Prop):Prop:=
 ∀(pins:List (Addr×Obj)) (s:Shared) (σ:St) (H:Hp) (x:V) (xs:List V) (v:Value) (us:List Value) (Q:VK),kC X pins σ H s->pC x v->sC xs us->r x xs H Q->
  wpAny (model X.prog X.w) X.A (call (.builtin id) (v::us)) (EP X pins σ Q) X.xe s
theorem sC.one:∀{x:V} {us:List Value},sC [x] us->∃u,us=[u]/\pC x u:=by
 intro x us h;cases h with
 |cons r h=>cases h;exact⟨_,rfl,r⟩
theorem sC.two:∀{x y:V} {us:List Value},sC [x,y] us->∃u v,us=[u,v]/\pC x u/\pC y v:=by
 intro x y us h;cases h with
 |cons r h=>
  cases h with
  |cons q h=>cases h;exact⟨_,_,rfl,r,q⟩
theorem sC.zero:∀{us:List Value},sC [] us->us=[]
 |_,.nil=>rfl
theorem sC.dropLast {xs:List V} {us:List Value} (h:sC xs us):sC xs.dropLast us.dropLast:=by
 induction h with
 |nil=>exact .nil
 |cons r t ih=>
  cases t with
  |nil=>exact .nil
  |cons q t'=>exact .cons r ih
theorem sC.reverse {xs:List V} {us:List Value} (h:sC xs us):sC xs.reverse us.reverse:=by
 induction h with
 |nil=>exact .nil
 |cons r t ih=>rw[List.reverse_cons,List.reverse_cons];exact sC.append ih (.cons r .nil)
theorem sC.rep {xs:List V} {us:List Value} (h:sC xs us):∀k:Nat,sC (List.replicate k xs).flatten (List.replicate k us).flatten
 |0=>.nil
 |k+1=>by
  rw[gB,gB,AB,AB];exact sC.append h (sC.rep h k)
theorem vc {α:Type} (l:List α):l.eraseIdx (l.length - 1)=l.dropLast:=by
 induction l with
 |nil=>rfl
 |cons a r ih=>
  cases r with
  |nil=>rfl
  |cons b r=>
   have e:(a::b::r).length - 1=((b::r).length - 1)+1:=by
    have h1:(a::b::r).length=r.length+2:=rfl;have h2:(b::r).length=r.length+1:=rfl;omega
   rw[e,List.eraseIdx_cons_succ,ih]
   all_goals rfl
theorem j4 (its:List Value):∀(k:Nat) (acc:List Value),
  List.foldl (λx1 x2=>x1++x2) acc.toArray (List.replicate k its.toArray)=(acc++(List.replicate k its).flatten).toArray
 |0,acc=>by simp
 |k+1,acc=>by
  have e:acc.toArray++its.toArray=(acc++its).toArray:=by simp
  have e2:(acc++its)++(List.replicate k its).flatten=acc++(List.replicate (k+1) its).flatten:=by
   rw[gB,AB,zB]
  rw[<-e2,<-j4 its k (acc++its),<-e,gB,List.foldl_cons]
section
variable {X:Cx} {pins:List (Addr×Obj)} {σ:St} {H:Hp} {s:Shared} {l b:Addr} {xs ys zs:List V}
theorem kC.lset {its its':List Value} {n:Nat} {f:Array Value->Array Value} {t':Nat} (I:kC X pins σ H s) (hH:H l=some (.lst xs))
  (e:s.heap.get? l=some {cls:=.type "list",data:=.seq its.toArray n}) (hf:f its.toArray=its'.toArray) (hv:sC ys its') (hz:ys.length<=sizeLine):
  kC X pins σ (jC H l (.lst ys)) {s with heap:=s.heap.update l (Obj.mapSeq f),toks:=t'}:=by
 have q:=PySem.IsL.update e f;rw[hf] at q;refine I.write (x:=l) (e:=l) (by rw[hH];exact trivial) (.inl rfl) (λb' u hb hu=>(yB s.heap (Obj.mapSeq f) (Ne.symm hb)).trans hu) ⟨_,q⟩ ?_;exact⟨hz,its',_,hv,q⟩
theorem kC.lnew {its:List Value} {t':Nat} (I:kC X pins σ H s) (hv:sC ys its) (hz:ys.length<=sizeLine):
  kC X pins σ (jC H s.heap.objs.size (.lst ys)) {s with heap:=s.heap.push {cls:=.type "list",data:=.seq its.toArray},toks:=t'}:=
 I.laid (λο ο q=>uA _ q) (kA _) ⟨hz,its,0,hv,FA _ rfl⟩
theorem kC.fresh (I:kC X pins σ H s):H s.heap.objs.size=none:=I.hok.fresh (kA _)
theorem kC.lstM (I:kC X pins σ H s) (hH:H l=some (.lst xs)):xs.length<=sizeLine/\∃(its:List Value) (n:Nat),sC xs its/\xs.length=its.length/\s.heap.get? l=some {cls:=.type "list",data:=.seq its.toArray n}:=by
 obtain⟨z,its,n,r,e⟩:=I.hok l _ hH;exact⟨z,its,n,r,r.length,e⟩
theorem eG {n:Nat} (h:n<=sizeLine):Builtin.List.listTooLong n=false:=by
 unfold Builtin.List.listTooLong;exact HA ⋯
end
section
variable {X:Cx}
def rAppend:V->List V->Hp->VK->Prop:=λx vs H Q=>∃l xs y,x=.ref l/\vs=[y]/\H l=some (.lst xs)/\xs.length < sizeLine/\Q .non (jC H l (.lst (xs++[y])))
theorem IN:YQ X "list.append" rAppend:=by
 intro pins s σ H x vs v us Q I rx rv h;obtain⟨l,xs,y,rfl,rfl,hH,hz,q⟩:=h;cases rx;obtain⟨u,rfl,ru⟩:=rv.one;obtain⟨z,its,n,r,hl,e⟩:=I.lstM hH;refine call_meets F.slot_list_append ⟨_,e,rfl⟩ F.entry_list_append (F.args_list_append_2 _ _) (PySem.list_append l its.toArray n u (by rw[CA];omega)) ⟨e,?_⟩;refine⟨.non,_,I.lset (its':=its++[u]) hH e (by simp) (r.append (.cons ru .nil)) ?_,rfl,q⟩;rw[oA,iB];omega
def rExtend:V->List V->Hp->VK->Prop:=λx vs H Q=>∃l b xs zs,x=.ref l/\vs=[.ref b]/\H l=some (.lst xs)/\H b=some (.lst zs)/\xs.length+zs.length<=sizeLine/\Q .non (jC H l (.lst (xs++zs)))
theorem wc:YQ X "list.extend" rExtend:=by
 intro pins s σ H x vs v us Q I rx rv h;obtain⟨l,b,xs,zs,rfl,rfl,hH,hB,hz,q⟩:=h;cases rx;obtain⟨u,rfl,ru⟩:=rv.one;cases ru;obtain⟨z,its,n,r,hl,e⟩:=I.lstM hH;obtain⟨z2,its2,n2,r2,hl2,e2⟩:=I.lstM hB;have hsz:its.toArray.size+its2.toArray.size<=sizeLine:=by rw[CA,CA];omega
 have hlong:¬(!its.toArray.isEmpty&&Builtin.List.listTooLong (its.toArray.size+its2.toArray.size))=true:=by
  rw[eG hsz,Bool.and_false];exact wA
 refine call_meets F.slot_list_extend ⟨_,e,rfl⟩ F.entry_list_extend (F.args_list_extend_2 _ _)
  (AutoSeq1.list_extend_list_list_0 l its.toArray n b its2.toArray n2 hlong (by rw[CA];omega) ⋯) ⟨e,e2,?_⟩
 refine⟨.non,_,I.lset (its':=its++its2) hH e (by simp) (r.append r2) ?_,rfl,q⟩;rw[oA];omega
def rPop:V->List V->Hp->VK->Prop:=λx vs H Q=>∃l xs y,x=.ref l/\vs=[]/\H l=some (.lst xs)/\xs[xs.length - 1]?=some y/\Q y (jC H l (.lst xs.dropLast))
theorem NK:YQ X "list.pop" rPop:=by
 intro pins s σ H x vs v us Q I rx rv h;obtain⟨l,xs,y,rfl,rfl,hH,hy,q⟩:=h;cases rx;have hus:=rv.zero;subst hus;obtain⟨z,its,n,r,hl,e⟩:=I.lstM hH;obtain⟨u,hu,ru⟩:=r.get hy;have hy':its.toArray[its.toArray.size - 1]?=some u:=by
  show its.toArray[its.length - 1]?=some u;rw[<-YB,<-hl];exact hu
 refine call_meets F.slot_list_pop ⟨_,e,rfl⟩ F.entry_list_pop (F.args_list_pop_1 _) (MeetsSeq.list_pop_last l its.toArray n u hy' (by rw[CA];omega)) ⟨e,?_⟩;refine⟨y,_,I.lset (its':=its.dropLast) hH e ?_ r.dropLast ?_,ru,q⟩
 ·show its.toArray.eraseIdxIfInBounds (its.toArray.size - 1)=its.dropLast.toArray;rw[CA,List.eraseIdxIfInBounds_toArray,vc]
 ·rw[List.length_dropLast];omega
def rCat:R2:=λx y H Q=>∃l b xs zs,x=.ref l/\y=.ref b/\H l=some (.lst xs)/\H b=some (.lst zs)/\xs.length+zs.length<=sizeLine/\∀p,H p=none->Q (.ref p) (jC H p (.lst (xs++zs)))
theorem OP:HE X (binaryOp .Add) rCat:=by
 intro pins s σ H x y v u Q I rx ry h;obtain⟨l,b,xs,zs,rfl,rfl,hH,hB,hz,q⟩:=h;cases rx;cases ry;obtain⟨z,its,n,r,hl,e⟩:=I.lstM hH;obtain⟨z2,its2,n2,r2,hl2,e2⟩:=I.lstM hB;refine PySem.P.add_list e e2 ?_ (by rw[CA,CA];omega);have ea:its.toArray++its2.toArray=(its++its2).toArray:=by simp
 rw[ea];exact⟨.ref _,_,I.lnew (t':=s.toks) (r.append r2) (by rw[oA];omega),rfl,q _ I.fresh⟩
def rRep:R2:=λx y H Q=>∃l k xs,x=.ref l/\y=.int k/\H l=some (.lst xs)/\ -(2 ^ 63)<=k/\k < 2 ^ 63/\xs.length * k.toNat<=sizeLine/\
 ∀p,H p=none->Q (.ref p) (jC H p (.lst (List.replicate k.toNat xs).flatten))
theorem xc {α:Type} (xs:List α) (k:Nat):(List.replicate k xs).flatten.length=k * xs.length:=by
 induction k with
 |zero=>simp
 |succ k ih=>rw[gB,AB,oA,ih,Nat.succ_mul,Nat.add_comm]
theorem ZQ:HE X (binaryOp .Mult) rRep:=by
 intro pins s σ H x y v u Q I rx ry h;obtain⟨l,k,xs,rfl,rfl,hH,h1,h2,hz,q⟩:=h;cases rx;obtain⟨t,rfl⟩:=ry;obtain⟨z,its,n,r,hl,e⟩:=I.lstM hH;have hlen:its.toArray.size * k.toNat<=sizeLine:=by rw[CA,<-hl];exact hz
 have hcap:¬its.toArray.size * k.toNat > (2 ^ 63 - 1) / 8:=by
  have:(sizeLine:Nat)<=(2 ^ 63 - 1) / 8:=by decide
  omega
 have hfit:¬(!Builtin.List.listFitsIndex k)=true:=by
  rw[fitsIndex_both h1 h2];exact wA
 have hlong:¬Builtin.List.listTooLong (its.toArray.size * k.toNat)=true:=by
  rw[eG hlen];exact wA
 have hnew:List.foldl (λx1 x2=>x1++x2) #[] (List.replicate (if its.toArray.isEmpty=true then 0 else k.toNat) its.toArray)=(List.replicate k.toNat its).flatten.toArray:=by
  have f0:∀m:Nat,List.foldl (λx1 x2=>x1++x2) #[] (List.replicate m its.toArray)=(List.replicate m its).flatten.toArray:=λm=>by
   have:=j4 its m [];rw[List.nil_append] at this;exact this
  rw[f0];cases its with
  |nil=>simp
  |cons a r'=>rw[fA (by simp)]
 refine wpAny_binaryOp_repeat_ref (T:="list") (U:="int") (by decide) ⟨_,e,rfl⟩ (λs'=>typeIs_int s' k t) noFill_list_mul F.fills_int_mul F.slot_int_rmul repeat_list F.slot_int_index.lookup
  (call_meets F.slot_int_rmul (typeIs_int s k t) F.entry_int_rmul (F.args_int_rmul_2 _ _) (int___rmul___int_list k t l its.toArray n)
   ⟨e,rfl,⟨_,e,rfl⟩,call_meets F.slot_list_mul ⟨_,e,rfl⟩ F.entry_list_mul (F.args_list_mul_2 _ _) (AutoListH.list___mul___list_int_3 l its.toArray n k t hfit hcap hlong) ⟨e,?_⟩⟩)
 rw[hnew];exact⟨.ref _,_,I.lnew (t':=s.toks) (r.rep k.toNat) (by rw[xc,Nat.mul_comm];exact hz),rfl,q _ I.fresh⟩
end
section
variable {prog:Program} {w:World} {A:Around} {E:Value->Shared->Prop} {s:Shared}
end
section
variable {X:Cx}
end
end L2
namespace L2
open PySem PySem.Spec PyProof.Rows
section
variable {κ:Type} [DecidableEq κ]
def gC (kvs:List (κ×V)) (k:κ):Option V:=(kvs.find? λkv=>decide (kv.1=k)).map (·.2)
def JC (kvs:List (κ×V)) (k:κ) (v:V):List (κ×V):=
 if (kvs.any λkv=>decide (kv.1=k))=true then kvs.map (λkv=>if kv.1=k then (kv.1,v) else kv) else kvs++[(k,v)]
def JD (kvs:List (κ×V)) (k:κ):List (κ×V):=kvs.filter λkv=>decide (kv.1≠k)
theorem pG {p:κ×V} {r:List (κ×V)} {k:κ} (e:p.1=k):gC (p::r) k=some p.2:=by simp[gC,List.find?_cons,e]
theorem fG {p:κ×V} {r:List (κ×V)} {k:κ} (e:¬p.1=k):gC (p::r) k=gC r k:=by simp[gC,List.find?_cons,e]
theorem lI (k:κ):∀kvs:List (κ×V),(kvs.any λkv=>decide (kv.1=k))=(gC kvs k).isSome
 |[]=>rfl
 |p::r=>by
  rw[List.any_cons];by_cases e:p.1=k
  ·simp only[pG e,nA e,Bool.true_or,Option.isSome_some]
  ·rw[fG e,HA e,Bool.false_or];exact lI k r
theorem l4 (k j:κ) (y:V):∀kvs:List (κ×V),gC (kvs.map λkv=>if kv.1=k then (kv.1,y) else kv) j=(gC kvs j).map λx=>if j=k then y else x
 |[]=>rfl
 |p::r=>by
  have ih:=l4 k j y r;rw[yA];by_cases h:p.1=k
  ·rw[iA h];by_cases e:p.1=j
   ·rw[pG (p:=(p.1,y)) e,pG e,Option.map_some,iA (e.symm.trans h)]
   ·rw[fG (p:=(p.1,y)) e,fG e,ih]
  ·rw[fA h];by_cases e:p.1=j
   ·rw[pG (p:=p) e,pG e,Option.map_some,fA (λz=>h (e.trans z))]
   ·rw[fG (p:=p) e,fG e,ih]
theorem PP (k j:κ) (y:V):∀kvs:List (κ×V),gC kvs k=none->gC (kvs++[(k,y)]) j=if j=k then some y else gC kvs j
 |[],_=>by
  by_cases e:k=j
  ·rw[iA e.symm];exact pG (p:=(k,y)) e
  ·rw[fA (λz=>e z.symm)];exact fG (p:=(k,y)) e
 |p::r,hn=>by
  rw[List.cons_append];have hk:¬p.1=k:=λz=>by rw[pG z] at hn;cases hn
  rw[fG hk] at hn;have ih:=PP k j y r hn;by_cases e:p.1=j
  ·rw[pG e,pG e,fA (λz=>hk (e.trans z))]
  ·rw[fG e,fG e,ih]
theorem PK (kvs:List (κ×V)) (k j:κ) (y:V):gC (JC kvs k y) j=if j=k then some y else gC kvs j:=by
 unfold JC;by_cases a:(kvs.any λkv=>decide (kv.1=k))=true
 ·rw[iA a,l4];rw[lI] at a;by_cases e:j=k
  ·obtain⟨x,hx⟩:=Option.isSome_iff_exists.mp a;rw[iA e,e,hx,Option.map_some,iA rfl]
  ·rw[fA e];cases gC kvs j with
   |none=>rfl
   |some x=>rw[Option.map_some,fA e]
 ·rw[fA a];refine PP k j y kvs ?_;rw[lI] at a;cases q:gC kvs k with
  |none=>rfl
  |some x=>rw[q] at a;exact (a rfl).elim
theorem aR (kvs:List (κ×V)) (k:κ) (v:V):(JC kvs k v).length<=kvs.length+1:=by
 unfold JC
 split
 ·rw[cA];omega
 ·rw[oA,ZA,List.length_nil];omega
theorem sJ {kvs:List (κ×V)} {k:κ} (v:V) (h:gC kvs k=none):JC kvs k v=kvs++[(k,v)]:=by
 unfold JC;rw[lI,h];exact fA (by decide)
theorem dE.isSome_eq {o:Option V} {u:Option Value} (r:dE o u):o.isSome=u.isSome:=by
 cases o with
 |none=>cases u with
  |none=>rfl
  |some _=>exact (show False from r).elim
 |some _=>cases u with
  |none=>exact (show False from r).elim
  |some _=>rfl
theorem dE.getD {o:Option V} {u:Option Value} {d:V} {d':Value} (r:dE o u) (rd:pC d d'):pC (o.getD d) (u.getD d'):=by
 cases o with
 |none=>cases u with
  |none=>exact rd
  |some _=>exact (show False from r).elim
 |some _=>cases u with
  |none=>exact (show False from r).elim
  |some _=>exact r
theorem KV.val {kvs:List (κ×V)} {vs:List (κ×Value)} (r:KV kvs vs) (k:κ):dE (gC kvs k) (valueAt vs k):=by
 unfold KV at r
 induction r with
 |nil=>exact True.intro
 |@cons p q ps qs h t ih=>
  obtain⟨h1,h2⟩:=h;by_cases e:p.1=k
  ·have e':q.1=k:=h1.symm.trans e;have b:valueAt (q::qs) k=some q.2:=by simp[valueAt,List.find?_cons,e']
   rw[pG e,b];exact h2
  ·have e':¬q.1=k:=λz=>e (h1.trans z);have b:valueAt (q::qs) k=valueAt qs k:=by simp[valueAt,List.find?_cons,e']
   rw[fG e,b];exact ih
theorem KV.any {kvs:List (κ×V)} {vs:List (κ×Value)} (r:KV kvs vs) (k:κ):(kvs.any λkv=>decide (kv.1=k))=vs.any λkv=>decide (kv.1=k):=by
 unfold KV at r
 induction r with
 |nil=>rfl
 |cons h t ih=>rw[List.any_cons,List.any_cons,ih,h.1]
theorem KV.repl {kvs:List (κ×V)} {vs:List (κ×Value)} (r:KV kvs vs) (k:κ) {y:V} {u:Value} (ry:pC y u):
  KV (kvs.map λkv=>if kv.1=k then (kv.1,y) else kv) (vs.map λkv=>if kv.1=k then (kv.1,u) else kv):=by
 unfold KV at r ⊢
 induction r with
 |nil=>exact .nil
 |@cons p q ps qs h t ih=>
  rw[yA,yA];refine .cons ?_ ih;obtain⟨h1,h2⟩:=h;by_cases e:p.1=k
  ·rw[iA e,iA (h1.symm.trans e)];exact⟨h1,ry⟩
  ·rw[fA e,fA (λz=>e (h1.trans z))];exact⟨h1,h2⟩
theorem KV.put {kvs:List (κ×V)} {vs:List (κ×Value)} (r:KV kvs vs) (k:κ) {y:V} {u:Value} (ry:pC y u):KV (JC kvs k y) (stored vs k u):=by
 unfold JC stored;rw[r.any k];by_cases e:(vs.any λkv=>decide (kv.1=k))=true
 ·rw[iA e,iA e];exact r.repl k ry
 ·rw[fA e,fA e];exact Paired.snoc r ⟨rfl,ry⟩
theorem KV.drop {kvs:List (κ×V)} {vs:List (κ×Value)} (r:KV kvs vs) (k:κ):KV (JD kvs k) (without vs k):=by
 unfold KV at r ⊢;unfold JD without
 induction r with
 |nil=>exact .nil
 |@cons p q ps qs h t ih=>
  obtain⟨h1,h2⟩:=h;rw[uB,uB];by_cases e:p.1=k
  ·have a:¬decide (p.1≠k)=true:=by simp[e]
   have b:¬decide (q.1≠k)=true:=by simp[h1.symm.trans e]
   rw[fA a,fA b];exact ih
  ·have e':¬q.1=k:=λz=>e (h1.trans z);have a:decide (p.1≠k)=true:=by simp[e]
   have b:decide (q.1≠k)=true:=by simp[e']
   rw[iA a,iA b];exact .cons ⟨h1,h2⟩ ih
theorem KV.length {kvs:List (κ×V)} {vs:List (κ×Value)} (r:KV kvs vs):kvs.length=vs.length:=Paired.length r
theorem yc (kvs:List (κ×V)) (k:κ):(JD kvs k).length<=kvs.length:=bB _ _
end
theorem tJ {P:Program} {w:World} {k:Key} {u:Value} (r:pC (kV k) u):(HC P w).is k u=true:=by
 cases k with
 |inl i=>obtain⟨t,e⟩:=(show ∃t,u=Value.int i t from r);subst e;exact Va P w i t
 |inr x=>obtain⟨t,e⟩:=(show ∃t,u=Value.str x t from r);subst e;exact Wa P w x t
theorem o4 {P:Program} {w:World}:∀{ks:List Key} {us:List Value},sC (ks.map kV) us->ItemsAre (HC P w) ks us
 |[],_,r=>by rw[BB] at r;cases r;exact .nil
 |k::ks,_,r=>by
  rw[yA] at r;cases r with
  |cons h t=>exact .cons (tJ h) (o4 t)
noncomputable abbrev KT (H:Hp):List (List Key×V)->List (List Key×Addr×Value)->Prop:=Paired λp q=>p.1=q.1/\H q.2.1=some (.tup (p.1.map kV))/\pC p.2 q.2.2
theorem KT.val {H:Hp} {kvs:List (List Key×V)} {xs:List (List Key×Addr×Value)} (r:KT H kvs xs) (k:List Key):dE (gC kvs k) ((atKey xs k).map (·.2)):=by
 induction r with
 |nil=>exact True.intro
 |@cons p q ps qs h t ih=>
  obtain⟨h1,_,h2⟩:=h;by_cases e:p.1=k
  ·have e':q.1=k:=h1.symm.trans e;have b:atKey (q::qs) k=some q.2:=by simp[atKey,List.find?_cons,e']
   rw[pG e,b];exact h2
  ·have e':¬q.1=k:=λz=>e (h1.trans z);have b:atKey (q::qs) k=atKey qs k:=by simp[atKey,List.find?_cons,e']
   rw[fG e,b];exact ih
theorem KT.repl {H:Hp} {kvs:List (List Key×V)} {xs:List (List Key×Addr×Value)} (r:KT H kvs xs) (k:List Key) {y:V} {u:Value} (ry:pC y u):
  KT H (kvs.map λkv=>if kv.1=k then (kv.1,y) else kv) (xs.map (putAt k u)):=by
 induction r with
 |nil=>exact .nil
 |@cons p q ps qs h t ih=>
  rw[yA,yA];refine .cons ?_ ih;obtain⟨h1,h2,h3⟩:=h;unfold putAt;by_cases e:p.1=k
  ·rw[iA e,iA (h1.symm.trans e)];exact⟨h1,h2,ry⟩
  ·rw[fA e,fA (λz=>e (h1.trans z))];exact⟨h1,h2,h3⟩
theorem KT.put {H:Hp} {kvs:List (List Key×V)} {xs:List (List Key×Addr×Value)} (r:KT H kvs xs) (k:List Key) {b:Addr} {y:V} {u:Value} (hb:H b=some (.tup (k.map kV))) (ry:pC y u):
  KT H (JC kvs k y) (storedH xs k b u):=by
 have e:(kvs.any λkv=>decide (kv.1=k))=(atKey xs k).isSome:=by
  rw[lI,(r.val k).isSome_eq,Option.isSome_map]
 unfold JC storedH;rw[e];by_cases q:(atKey xs k).isSome=true
 ·rw[iA q,iA q];exact r.repl k ry
 ·rw[fA q,fA q];exact Paired.snoc r ⟨rfl,hb,ry⟩
theorem KT.keeps {H H':Hp} {kvs:List (List Key×V)} {xs:List (List Key×Addr×Value)} (r:KT H kvs xs) (ht:∀b ys,H b=some (.tup ys)->H' b=some (.tup ys)):KT H' kvs xs:=
 Paired.mapP r λο ο z=>⟨z.1,ht _ _ z.2.1,z.2.2⟩
section
variable {P:Program} {w:World} {H:Hp} {h:Heap} {a:Addr}
theorem uJ {u:HO} (ok:jE P w H h) (e:Rd H a u):MC P w H h a u:=e.ok ok
theorem jH {kvs:List (Key×V)} (ok:jE P w H h) (e:Rd H a (.dK kvs)):kvs.length<=sizeLine/\(a == sysModules)=false/\∃vs,KV kvs vs/\h.DictOf (HC P w) a vs:=
 show MC P w H h a (.dK kvs) from uJ ok e
theorem vJ {kvs:List (Key×V)} (ok:jE P w H h) (e:H a=some (.dK kvs)):kvs.length<=sizeLine/\(a == sysModules)=false/\∃vs,KV kvs vs/\h.DictOf (HC P w) a vs:=jH ok (.inl e)
theorem wJ {ks:List Key} (ok:jE P w H h) (e:H a=some (.tup (ks.map kV))):(tupleKind (HC P w)).is h ks a:=by
 obtain⟨_,its,r,o,h1,h2,n,h3⟩:=(show MC P w H h a (.tup (ks.map kV)) from ok a _ e)
 exact⟨o,its.toArray,n,h1,h2,h3,by simpa using o4 r⟩
theorem HI {kvs:List (List Key×V)} (ok:jE P w H h) (e:Rd H a (.dT kvs)):kvs.length<=sizeLine/\(a == sysModules)=false/\
  ∃xs,KT H kvs xs/\h.DictOfH (tupleKind (HC P w)) a xs:=by
 obtain⟨z,y,xs,r,o,es,ep,h1,h2,h3,h4,h5⟩:=(show MC P w H h a (.dT kvs) from uJ ok e)
 refine⟨z,y,xs,r,o,es,ep,h1,h2,h3,h4,λx hx=>?_,h5⟩;have all:∀{l:List (List Key×V)} {m:List (List Key×Addr×Value)},KT H l m->∀x∈m,(tupleKind (HC P w)).is h x.1 x.2.1:=by
  intro l m q
  induction q with
  |nil=>intro x hx;exact nomatch hx
  |@cons p q ps qs hq t ih=>
   intro x hx;rcases vA.mp hx with e|hx
   ·subst e;exact wJ ok (by rw[<-hq.1];exact hq.2.1)
   ·exact ih x hx
 exact all r x hx
theorem JN {kvs:List (List Key×V)} (ok:jE P w H h) (e:H a=some (.dT kvs)):kvs.length<=sizeLine/\(a == sysModules)=false/\
 ∃xs,KT H kvs xs/\h.DictOfH (tupleKind (HC P w)) a xs:=HI ok (.inl e)
end
def YD (H:Hp) (a:Addr) (y:V) (r:Option V):Prop:=
 (∃kvs k,Rd H a (.dK kvs)/\y=kV k/\r=gC kvs k)\/∃kvs k b,Rd H a (.dT kvs)/\y=.ref b/\H b=some (.tup (k.map kV))/\r=gC kvs k
def wG (H:Hp) (a:Addr) (y v:V) (H':Hp):Prop:=
 (∃kvs k,H a=some (.dK kvs)/\y=kV k/\kvs.length < sizeLine/\H'=jC H a (.dK (JC kvs k v)))\/
 ∃kvs k b,H a=some (.dT kvs)/\y=.ref b/\H b=some (.tup (k.map kV))/\kvs.length < sizeLine/\H'=jC H a (.dT (JC kvs k v))
theorem YD.k {H:Hp} {a:Addr} {kvs:List (Key×V)} {k:Key} (e:H a=some (.dK kvs)):YD H a (kV k) (gC kvs k):=.inl ⟨kvs,k,.inl e,rfl,rfl⟩
theorem YD.t {H:Hp} {a b:Addr} {kvs:List (List Key×V)} {k:List Key} (e:H a=some (.dT kvs)) (eb:H b=some (.tup (k.map kV))):YD H a (.ref b) (gC kvs k):=.inr ⟨kvs,k,b,.inl e,rfl,eb,rfl⟩
theorem wG.k {H:Hp} {a:Addr} {kvs:List (Key×V)} {k:Key} {v:V} (e:H a=some (.dK kvs)) (hl:kvs.length < sizeLine):wG H a (kV k) v (jC H a (.dK (JC kvs k v))):=.inl ⟨kvs,k,e,rfl,hl,rfl⟩
theorem wG.t {H:Hp} {a b:Addr} {kvs:List (List Key×V)} {k:List Key} {v:V} (e:H a=some (.dT kvs)) (eb:H b=some (.tup (k.map kV))) (hl:kvs.length < sizeLine):
 wG H a (.ref b) v (jC H a (.dT (JC kvs k v))):=.inr ⟨kvs,k,b,e,rfl,eb,hl,rfl⟩
section
variable {X:Cx} {pins:List (Addr×Obj)} {σ:St} {H:Hp} {s:Shared} {a:Addr} {y v:V} {u r:Value} {o:Option V} {A:Around} {E:Value->Shared->Prop}
theorem kC.big (I:kC X pins σ H s):sysModules < s.heap.objs.size:=by
 have h:mainGlobals < s.heap.objs.size:=(I.mod.glob.keeps I.bk).lt;exact Nat.lt_trans (by decide) h
theorem zc {Q:Value->Shared->Prop} (hu:A.units+1 < cLine) (I:kC X pins σ H s) (g:YD H a y (some v)) (ry:pC y u) (h:∀w' s',kC X pins σ H s'->pC v w'->Q w' s'):
  wpAny (model X.prog X.w) A (getItem (.ref a) u) Q E s:=by
 rcases g with ⟨kvs,k,e,ey,l⟩|⟨kvs,k,b,e,ey,eb,l⟩
 ·subst ey;obtain⟨z,hd,vs,rel,dd⟩:=jH I.hok e;obtain⟨w',hw,rw'⟩:=dE.some_of (v:=v) (o:=valueAt vs k) (by rw[l];exact rel.val k);exact wpAny_getItem_of (tJ ry) dd.mapOf hw (h w' _ (I.tok _) rw')
 ·subst ey;cases (show u=Value.ref b from ry);obtain⟨z,hd,xs,rel,dd⟩:=HI I.hok e;obtain⟨w',hw,rw'⟩:=dE.some_of (v:=v) (o:=(atKey xs k).map (·.2)) (by rw[l];exact rel.val k);obtain⟨p,hp,hp2⟩:=XA.mp hw;refine wpAny_getItem_heap (KB hu) (wJ I.hok eb) dd hp ?_;rw[hp2];exact h w' _ (I.tok _) rw'
theorem bR {Q:Value->Shared->Prop} (hu:A.units+1 < cLine) (I:kC X pins σ H s) (g:YD H a y o) (ry:pC y u) (h:∀s',kC X pins σ H s'->Q (.bool o.isSome) s'):
  wpAny (model X.prog X.w) A (compareOp .In u (.ref a)) Q E s:=by
 rcases g with ⟨kvs,k,e,ey,l⟩|⟨kvs,k,b,e,ey,eb,l⟩
 ·subst ey;obtain⟨z,hd,vs,rel,dd⟩:=jH I.hok e;refine wpAny_in_of (tJ ry) hd dd.mapOf ?_;rw[<-(rel.val k).isSome_eq,<-l];exact h _ (I.tok _)
 ·subst ey;cases (show u=Value.ref b from ry);obtain⟨z,hd,xs,rel,dd⟩:=HI I.hok e;refine wpAny_in_heap (KB hu) (wJ I.hok eb) hd dd ?_;have q:=(rel.val k).isSome_eq;rw[Option.isSome_map] at q;rw[<-q,<-l];exact h _ (I.tok _)
theorem Nc {Q:Value->Shared->Prop} (hu:A.units+1 < cLine) (I:kC X pins σ H s) (g:YD H a y o) (ry:pC y u) (h:∀s',kC X pins σ H s'->Q (.bool (!o.isSome)) s'):
  wpAny (model X.prog X.w) A (compareOp .NotIn u (.ref a)) Q E s:=by
 rcases g with ⟨kvs,k,e,ey,l⟩|⟨kvs,k,b,e,ey,eb,l⟩
 ·subst ey;obtain⟨z,hd,vs,rel,dd⟩:=jH I.hok e;refine wpAny_notIn_of (tJ ry) hd dd.mapOf ?_;rw[<-(rel.val k).isSome_eq,<-l];exact h _ (I.tok _)
 ·subst ey;cases (show u=Value.ref b from ry);obtain⟨z,hd,xs,rel,dd⟩:=HI I.hok e;refine wpAny_notIn_heap (KB hu) (wJ I.hok eb) hd dd ?_;have q:=(rel.val k).isSome_eq;rw[Option.isSome_map] at q;rw[<-q,<-l];exact h _ (I.tok _)
theorem QP {h':Heap} {t':Nat} {ob:HO} (I:kC X pins σ H s) (mu:bN (H a)) (hs:Heap.SameBut a s.heap h') (he:∃q,h'.get? a=some q) (new:MC X.prog X.w (jC H a ob) h' a ob):
  kC X pins σ (jC H a ob) {s with heap:=h',toks:=t'}:=
 I.write (x:=a) (e:=a) mu (.inl rfl) (λb q hb z=>(hs.2 b hb).trans z) he new
theorem cR {P:Program} {w:World} {H':Hp} {h':Heap} {kvs:List (Key×V)} {vs:List (Key×Value)} (z:kvs.length<=sizeLine) (hd:(a == sysModules)=false) (rel:KV kvs vs) (dd:h'.DictOf (HC P w) a vs):
 MC P w H' h' a (.dK kvs):=⟨z,hd,vs,rel,dd⟩
theorem Oc {H':Hp} {Q:Unit->Shared->Prop} (hu:A.units+1 < cLine) (I:kC X pins σ H s) (g:wG H a y v H') (ry:pC y u) (rv:pC v r) (h:∀s',kC X pins σ H' s'->Q () s'):
  wpAny (model X.prog X.w) A (setItem (.ref a) u r) Q E s:=by
 rcases g with ⟨kvs,k,e,ey,l,eH⟩|⟨kvs,k,b,e,ey,eb,l,eH⟩
 ·subst ey eH;obtain⟨z,hd,vs,rel,dd⟩:=vJ I.hok e;have hz:vs.length<=sizeLine:=by rw[<-rel.length];exact z
  have hl:(JC kvs k v).length<=sizeLine:=by have:=aR kvs k v;omega
  refine wpAny_setItem_pairs (hsz:=hz) (tJ ry) dd λh' dd' hs=>h _ ?_;have he:∃q,h'.get? a=some q:=let ⟨q,_,_,hq,_⟩:=dd';⟨q,hq⟩
  exact QP I (by rw[e];exact True.intro) hs he (cR hl hd (rel.put k rv) dd')
 ·subst ey eH;cases (show u=Value.ref b from ry);obtain⟨z,hd,xs,rel,dd⟩:=JN I.hok e;have hz:xs.length<=sizeLine:=by rw[<-Paired.length rel];exact z
  have hl:(JC kvs k v).length<=sizeLine:=by have:=aR kvs k v;omega
  refine wpAny_setItem_heap (hsz:=hz) (KB hu) (wJ I.hok eb) dd λh' dd' hs=>h _ ?_;obtain⟨q,es,ep,hq,h2,h3,h4,_,h5⟩:=dd';refine QP I (by rw[e];exact True.intro) hs ⟨q,hq⟩ ⟨hl,hd,_,(rel.put k eb rv).keeps λc ys ec=>?_,q,es,ep,hq,h2,h3,h4,h5⟩;rw[vC (LC ec e (λz=>nomatch z))];exact ec
end
section
variable {X:Cx} {pins:List (Addr×Obj)} {σ:St} {H:Hp} {s:Shared} {a:Addr} {kvs:List (Key×V)} {k:Key} {u:Value} {A:Around} {E:Value->Shared->Prop}
theorem KN {v:V} {more:List Value} {Q:Value->Shared->Prop} (I:kC X pins σ H s) (e:H a=some (.dK kvs)) (ry:pC (kV k) u) (l:gC kvs k=some v) (hm:more=[]\/∃x,more=[x])
  (h:∀w' s',kC X pins σ (jC H a (.dK (JD kvs k))) s'->pC v w'->Q w' s'):wpAny (model X.prog X.w) A (call (.builtin "dict.pop") (.ref a::u::more)) Q E s:=by
 obtain⟨z,hd,vs,rel,dd⟩:=vJ I.hok e;obtain⟨w',hw,rw'⟩:=dE.some_of (v:=v) (o:=valueAt vs k) (by rw[<-l];exact rel.val k);have hp:(keyPart u).isSome=true:=by
  cases k with
  |inl i=>obtain⟨t,q⟩:=(show ∃t,u=Value.int i t from ry);subst q;rfl
  |inr x=>obtain⟨t,q⟩:=(show ∃t,u=Value.str x t from ry);subst q;rfl
 have ha:argsOk "dict.pop" ⟨.ref a::u::more,[]⟩:=by
  rcases hm with q|⟨x,q⟩
  ·subst q;exact PySem.F.args_dict_pop_2 _ _
  ·subst q;exact PySem.F.args_dict_pop_3 _ _ _
 refine call_meetsIn PySem.F.slot_dict_pop dd.typeIs PySem.F.entry_dict_pop ha (meets_dict_pop_there (HC X.prog X.w) a (tJ ry) more hm hp)
  ⟨vs,w',dd,by rw[<-rel.length];exact z,hw,λh' dd' hs=>h w' _ ?_ rw'⟩
 have he:∃q,h'.get? a=some q:=let ⟨q,_,_,hq,_⟩:=dd';⟨q,hq⟩
 exact QP I (by rw[e];exact True.intro) hs he (cR (dB (yc kvs k) z) hd (rel.drop k) dd')
theorem LN {Q:Value->Shared->Prop} (I:kC X pins σ H s) (e:Rd H a (.dK kvs)) (h:∀t s',kC X pins σ H s'->Q (.int kvs.length t) s'):wpAny (model X.prog X.w) A (call (.builtin "len") [.ref a]) Q E s:=by
 obtain⟨z,hd,vs,rel,dd⟩:=jH I.hok e;refine call_len_dict hd dd (by rw[<-rel.length];rw[sizeLine_eq] at z;omega) ?_;rw[<-rel.length];exact h _ _ (I.tok _)
end
def MN (i:Expr):Prop:=∀ov iv,subscripted i false ov iv=operate [ov,iv] (getItem ov iv)
theorem Pc {prog:Program} {w:World} {A:Around} {E:Value->Shared->Prop} {s:Shared} {env:Env} {value slice:Expr} {pos:Pos} {T id:String} {Q:Value->Shared->Prop}
  (hl:typeLookup (.type T) "__getitem__"=pure (some (.builtin id))) (hs:MN slice)
  (h:wpAny (model prog w) A (eval value env) (λo s₁=>wpAny (model prog w) A (eval slice env) (λi s₂=>s₂.TypeIs o T/\wpAny (model prog w) A (getItem o i) Q E s₂) E s₁) E s):
  wpAny (model prog w) A (eval (.Subscript value slice pos) env) Q E s:=by
 refine Subscript_ (mB h (λo s₁ h₁=>mB h₁ (λi s₂ h₂=>?_) λο ο x=>x) λο ο x=>x);obtain⟨hT,h₂⟩:=h₂;unfold subscriptTail;refine jA ?_;rw[getitemInPython_of_ne hT.not_modules];refine jA (wpAny_specialOf hT hl ?_);have fin:wpAny (model prog w) A (subscripted slice false o i) (λr s₃=>wpAny (model prog w) A (letTemporaryGo value o r >>= λο=>pure r) Q E s₃) E s₂:=by
  rw[hs o i];exact wpAny_operating (mB h₂ (λr s₃ h₃=>jA (wpAny_letTemporaryGo (EA h₃))) λο ο x=>x)
 first
  |exact EA (jA fin)
  |exact jA (EA (jA fin))
  |exact jA fin
theorem Qc {X:Cx} {pins:List (Addr×Obj)} {σ:St} {H:Hp} {s:Shared} {a:Addr} {y:V} {o:Option V} (I:kC X pins σ H s) (g:YD H a y o):s.TypeIs (.ref a) "dict":=by
 rcases g with ⟨kvs,k,e,_,_⟩|⟨kvs,k,b,e,_,_,_⟩
 ·obtain⟨_,_,vs,_,dd⟩:=jH I.hok e;exact dd.typeIs
 ·obtain⟨_,_,xs,_,dd⟩:=HI I.hok e;exact dd.typeIs
def pD (td ty:TE):TE:=λσ H Q=>td σ H λx H1=>ty σ H1 λy H2=>∃a v,x=.ref a/\YD H2 a y (some v)/\Q v H2
def II (ty td:TE):TE:=λσ H Q=>ty σ H λy H1=>td σ H1 λx H2=>∃a o,x=.ref a/\YD H2 a y o/\Q (.bl o.isSome) H2
def qE (ty td:TE):TE:=λσ H Q=>ty σ H λy H1=>td σ H1 λx H2=>∃a o,x=.ref a/\YD H2 a y o/\Q (.bl (!o.isSome)) H2
def ND (td ty tv:TE):TS:=λD σ H=>tv σ H λv H1=>td σ H1 λx H2=>ty σ H2 λy H3=>∃a H4,x=.ref a/\wG H3 a y v H4/\D.nx σ H4
section
variable {X:Cx} {o i e value:Expr} {pos pos' tpos:Pos} {td ty tv:TE}
theorem VD (hu:X.A.units+1 < cLine) (ho:PE X o td) (hi:PE X i ty) (hs:MN i):PE X (.Subscript o i pos) (pD td ty):=by
 intro pins s σ H Q I h;refine Pc PySem.F.slot_dict_getitem.lookup hs (KC (ho pins s σ H _ I h) λu s1 ⟨x,H1,I1,rx,q1⟩=>KC (hi pins s1 σ H1 _ I1 q1) λiv s2 zz=>?_);obtain⟨y,H2,I2,ry,a,v,ex,g,q2⟩:=zz;subst ex;obtain rfl:u=Value.ref a:=rx;exact⟨Qc I2 g,zc hu I2 g ry λw' s3 I3 rw'=>⟨v,H2,I3,rw',q2⟩⟩
theorem dR (hu:X.A.units+1 < cLine) (hi:PE X i ty) (ho:PE X o td):PC X .In i o (II ty td):=by
 intro pins s σ H Q I h;refine KC (hi pins s σ H _ I h) λiv s1 ⟨y,H1,I1,ry,q1⟩=>KC (ho pins s1 σ H1 _ I1 q1) λu s2 zz=>?_;obtain⟨x,H2,I2,rx,a,ov,ex,g,q2⟩:=zz;subst ex;obtain rfl:u=Value.ref a:=rx;exact bR hu I2 g ry λs3 I3=>⟨.bl ov.isSome,H2,I3,rfl,q2⟩
theorem NN (hu:X.A.units+1 < cLine) (hi:PE X i ty) (ho:PE X o td):PC X .NotIn i o (qE ty td):=by
 intro pins s σ H Q I h;refine KC (hi pins s σ H _ I h) λiv s1 ⟨y,H1,I1,ry,q1⟩=>KC (ho pins s1 σ H1 _ I1 q1) λu s2 zz=>?_;obtain⟨x,H2,I2,rx,a,ov,ex,g,q2⟩:=zz;subst ex;obtain rfl:u=Value.ref a:=rx;exact Nc hu I2 g ry λs3 I3=>⟨.bl (!ov.isSome),H2,I3,rfl,q2⟩
theorem QF (hu:X.A.units+1 < cLine) (ho:PE X o td) (hi:PE X i ty) (hv:PE X value tv) (hs:swapsWith value (some (.Subscript o i pos')) pos.line X.env=pure false):
  PS X (.Assign [.Subscript o i pos'] value pos) (ND td ty tv):=by
 intro pins s σ H D I h;refine wpAny_Assign_Subscript (KC (hv pins s σ H _ I h) λr s1 ⟨v,H1,I1,rv,q1⟩=>KC (ho pins s1 σ H1 _ I1 q1) λu s2 ⟨x,H2,I2,rx,q2⟩=>KC (hi pins s2 σ H2 _ I2 q2) λiv s3 zz=>?_) hs;obtain⟨y,H3,I3,ry,a,H4,ex,g,q3⟩:=zz;subst ex;obtain rfl:u=Value.ref a:=rx;exact Oc hu I3 g ry rv λs4 I4=>⟨σ,H4,I4,q3⟩
end
theorem Rc {P:Program} {w:World} {H:Hp} (h:Heap) (hb:sysModules < h.objs.size):MC P w H (h.push {cls:=.type "dict",data:=.dict #[]}) h.objs.size (.dK []):=
 ⟨aC _,FB.mpr (Ne.symm (LA hb)),[],.nil,Heap.DictOf.new h⟩
theorem Sc {P:Program} {w:World} {H:Hp} (h:Heap) (hb:sysModules < h.objs.size):MC P w H (h.push {cls:=.type "dict",data:=.dict #[]}) h.objs.size (.dT []):=
 ⟨aC _,FB.mpr (Ne.symm (LA hb)),[],.nil,_, #[],0,FA _ rfl,⟨rfl,rfl,rfl⟩,rfl,rfl,List.nodup_nil⟩
def tDNewK:TE:=λο H Q=>∀p,H p=none->Q (.ref p) (jC H p (.dK []))
def tDNewT:TE:=λο H Q=>∀p,H p=none->Q (.ref p) (jC H p (.dT []))
section
variable {X:Cx} {pos:Pos}
theorem JI:PE X (.Dict [] [] pos) tDNewK:=λpins s σ H Q I h=>
 wpAny_Dict_empty ⟨.ref s.heap.objs.size,_,I.laid (a:=s.heap.objs.size) (o:=.dK []) (t':=s.toks) (λο ο q=>uA _ q) (kA _) (Rc s.heap I.big),rfl,h _ (I.hok.fresh (kA _))⟩
theorem RP:PE X (.Dict [] [] pos) tDNewT:=λpins s σ H Q I h=>
 wpAny_Dict_empty ⟨.ref s.heap.objs.size,_,I.laid (a:=s.heap.objs.size) (o:=.dT []) (t':=s.toks) (λο ο q=>uA _ q) (kA _) (Sc s.heap I.big),rfl,h _ (I.hok.fresh (kA _))⟩
end
def mergeK (kvs more:List (Key×V)):List (Key×V):=more.foldl (λacc kv=>JC acc kv.1 kv.2) kvs
structure M1 (X:Cx) (o:Expr) (m:Str) (apos:Pos) (e:Expr) (cpos:Pos):Prop where
 base:attributeBase o m X.env (eval o X.env)=eval o X.env
 few:((backTo cpos (starEach [e] X.env)).all (λx=> !x.1)&&(backToKw cpos (keywordEach [] X.env)).all (λx=>x.1.isSome)
  &&decide (([e]:List Expr).length+([]:List Keyword).length+(if ([]:List Keyword).isEmpty then 0 else 1) < 30))=true
 line:(apos.endLine == cpos.line)=true
 trees:backTo cpos (starEach [e] X.env)=[(false,eval e X.env)]
structure M2 (X:Cx) (o:Expr) (m:Str) (apos:Pos) (e f:Expr) (cpos:Pos):Prop where
 base:attributeBase o m X.env (eval o X.env)=eval o X.env
 few:((backTo cpos (starEach [e,f] X.env)).all (λx=> !x.1)&&(backToKw cpos (keywordEach [] X.env)).all (λx=>x.1.isSome)
  &&decide (([e,f]:List Expr).length+([]:List Keyword).length+(if ([]:List Keyword).isEmpty then 0 else 1) < 30))=true
 line:(apos.endLine == cpos.line)=true
 trees:backTo cpos (starEach [e,f] X.env)=[(false,eval e X.env),(false,eval f X.env)]
def FM (H:Hp) (a:Addr):Prop:=(∃kvs,Rd H a (.dK kvs))\/∃kvs,Rd H a (.dT kvs)
theorem ON {X:Cx} {pins:List (Addr×Obj)} {σ:St} {H:Hp} {s:Shared} {a:Addr} (I:kC X pins σ H s) (d:FM H a):
  s.TypeIs (.ref a) "dict"/\(∀b,Value.ref a=.ref b->∃ob,s.heap.get? b=some ob/\ob.dict=none)/\(a == sysModules)=false:=by
 rcases d with ⟨kvs,e⟩|⟨kvs,e⟩
 ·obtain⟨_,hd,vs,_,dd⟩:=jH I.hok e;refine⟨dd.typeIs,λb q=>?_,hd⟩;cases q;obtain⟨ob,_,_,h1,h2,_⟩:=dd;exact⟨ob,h1,h2.2.1⟩
 ·obtain⟨_,hd,xs,_,dd⟩:=HI I.hok e;refine⟨dd.typeIs,λb q=>?_,hd⟩;cases q;obtain⟨ob,_,_,h1,h2,_⟩:=dd;exact⟨ob,h1,h2.2.1⟩
section
variable {X:Cx} {pins:List (Addr×Obj)} {σ:St} {H:Hp} {s:Shared} {a:Addr} {y d:V} {u r:Value} {o:Option V} {A:Around} {E:Value->Shared->Prop}
theorem QK {Q:Value->Shared->Prop} (hu:A.units+1 < cLine) (I:kC X pins σ H s) (g:YD H a y o) (ry:pC y u) (h:∀w' s',kC X pins σ H s'->pC (o.getD .non) w'->Q w' s'):
  wpAny (model X.prog X.w) A (call (.builtin "dict.get") [.ref a,u]) Q E s:=by
 rcases g with ⟨kvs,k,e,ey,l⟩|⟨kvs,k,b,e,ey,eb,l⟩
 ·subst ey;obtain⟨z,hd,vs,rel,dd⟩:=jH I.hok e;refine call_meetsIn PySem.F.slot_dict_get dd.typeIs PySem.F.entry_dict_get (PySem.F.args_dict_get_2 _ _) (meets_dict_get (HC X.prog X.w) a (tJ ry) hd) ⟨_,dd.mapOf,h _ _ (I.tok _) ?_⟩;rw[l];exact (rel.val k).getD rfl
 ·subst ey;cases (show u=Value.ref b from ry);obtain⟨z,hd,xs,rel,dd⟩:=HI I.hok e;refine call_meetsIn PySem.F.slot_dict_get dd.typeIs PySem.F.entry_dict_get (PySem.F.args_dict_get_2 _ _) (meetsH_dict_get (tupleKind (HC X.prog X.w)) a b hd) ⟨KB hu,k,xs,wJ I.hok eb,dd,h _ _ (I.tok _) ?_⟩;rw[l];exact (rel.val k).getD rfl
theorem RK {Q:Value->Shared->Prop} (hu:A.units+1 < cLine) (I:kC X pins σ H s) (g:YD H a y o) (ry:pC y u) (rd:pC d r) (h:∀w' s',kC X pins σ H s'->pC (o.getD d) w'->Q w' s'):
  wpAny (model X.prog X.w) A (call (.builtin "dict.get") [.ref a,u,r]) Q E s:=by
 rcases g with ⟨kvs,k,e,ey,l⟩|⟨kvs,k,b,e,ey,eb,l⟩
 ·subst ey;obtain⟨z,hd,vs,rel,dd⟩:=jH I.hok e;refine call_meetsIn PySem.F.slot_dict_get dd.typeIs PySem.F.entry_dict_get (PySem.F.args_dict_get_3 _ _ _) (meets_dict_get_default (HC X.prog X.w) a (tJ ry) hd r) ⟨_,dd.mapOf,h _ _ (I.tok _) ?_⟩;rw[l];exact (rel.val k).getD rd
 ·subst ey;cases (show u=Value.ref b from ry);obtain⟨z,hd,xs,rel,dd⟩:=HI I.hok e;refine call_meetsIn PySem.F.slot_dict_get dd.typeIs PySem.F.entry_dict_get (PySem.F.args_dict_get_3 _ _ _) (meetsH_dict_get_default (tupleKind (HC X.prog X.w)) a b hd r) ⟨KB hu,k,xs,wJ I.hok eb,dd,h _ _ (I.tok _) ?_⟩;rw[l];exact (rel.val k).getD rd
end
def xH (td ty:TE):TE:=λσ H Q=>td σ H λx H1=>∃a,x=.ref a/\FM H1 a/\ty σ H1 λy H2=>∃o,YD H2 a y o/\Q (o.getD .non) H2
def yH (td ty tx:TE):TE:=λσ H Q=>td σ H λx H1=>∃a,x=.ref a/\FM H1 a/\ty σ H1 λy H2=>tx σ H2 λz H3=>∃o,YD H3 a y o/\Q (o.getD z) H3
def zH (td ty:TE):TE:=λσ H Q=>td σ H λx H1=>∃a,x=.ref a/\FM H1 a/\ty σ H1 λy H2=>∃kvs k v,H2 a=some (.dK kvs)/\y=kV k/\gC kvs k=some v/\Q v (jC H2 a (.dK (JD kvs k)))
section
variable {X:Cx} {o e f:Expr} {apos cpos:Pos} {td ty tx:TE}
theorem Tc (hu:X.A.units+1 < cLine) (ho:PE X o td) (he:PE X e ty) (m:M1 X o "get" apos e cpos):PE X (.Call (.Attribute o "get" apos) [e] [] cpos) (xH td ty):=by
 intro pins s σ H Q I h;refine wpAny_Call_method m.base m.few m.line PySem.F.plainAttrs_dict PySem.F.slot_dict_get PySem.F.type_dict_get (KC (ho pins s σ H _ I h) λu s1 zz=>?_);obtain⟨x,H1,I1,rx,a,ex,d,q1⟩:=zz;subst ex;obtain rfl:u=Value.ref a:=rx;obtain⟨t1,t2,_⟩:=ON I1 d;refine⟨t1,t2,?_⟩;rw[m.trees];refine nB rfl (MB (IB (KC (he pins s1 σ H1 _ I1 q1) λiv s2 ⟨y,H2,I2,ry,ov,g,q2⟩=>Calls.spliced_nil ?_)));exact QK hu I2 g ry λw' s3 I3 rw'=>⟨_,H2,I3,rw',q2⟩
theorem Uc (hu:X.A.units+1 < cLine) (ho:PE X o td) (he:PE X e ty) (hf:PE X f tx) (m:M2 X o "get" apos e f cpos):PE X (.Call (.Attribute o "get" apos) [e,f] [] cpos) (yH td ty tx):=by
 intro pins s σ H Q I h;refine wpAny_Call_method m.base m.few m.line PySem.F.plainAttrs_dict PySem.F.slot_dict_get PySem.F.type_dict_get (KC (ho pins s σ H _ I h) λu s1 zz=>?_);obtain⟨x,H1,I1,rx,a,ex,d,q1⟩:=zz;subst ex;obtain rfl:u=Value.ref a:=rx;obtain⟨t1,t2,_⟩:=ON I1 d;refine⟨t1,t2,?_⟩;rw[m.trees];refine nB rfl (MB (IB (KC (he pins s1 σ H1 _ I1 q1) λiv s2 ⟨y,H2,I2,ry,q2⟩=>
  IB (KC (hf pins s2 σ H2 _ I2 q2) λfv s3 ⟨z,H3,I3,rz,ov,g,q3⟩=>Calls.spliced_nil ?_))))
 exact RK hu I3 g ry rz λw' s4 I4 rw'=>⟨_,H3,I4,rw',q3⟩
theorem eR (ho:PE X o td) (he:PE X e ty) (m:M1 X o "pop" apos e cpos):PE X (.Call (.Attribute o "pop" apos) [e] [] cpos) (zH td ty):=by
 intro pins s σ H Q I h;refine wpAny_Call_method m.base m.few m.line PySem.F.plainAttrs_dict PySem.F.slot_dict_pop PySem.F.type_dict_pop (KC (ho pins s σ H _ I h) λu s1 zz=>?_);obtain⟨x,H1,I1,rx,a,ex,d,q1⟩:=zz;subst ex;obtain rfl:u=Value.ref a:=rx;obtain⟨t1,t2,_⟩:=ON I1 d;refine⟨t1,t2,?_⟩;rw[m.trees];refine nB rfl (MB (IB (KC (he pins s1 σ H1 _ I1 q1) λiv s2 ⟨y,H2,I2,ry,kvs,k,v,ea,ey,l,q2⟩=>Calls.spliced_nil ?_)));subst ey;exact KN I2 ea ry l (.inl rfl) λw' s3 I3 rw'=>⟨v,_,I3,rw',q2⟩
end
section
variable {X:Cx} {pins:List (Addr×Obj)} {σ:St} {H:Hp} {s:Shared} {a:Addr} {kvs:List (Key×V)} {A:Around} {E:Value->Shared->Prop}
theorem Vc {Q:Value->Shared->Prop} (I:kC X pins σ H s) (e:Rd H a (.dK kvs)) (h:∀p s',H p=none->kC X pins σ (jC H p (.dK kvs)) s'->Q (.ref p) s'):wpAny (model X.prog X.w) A (call (.type "dict") [.ref a]) Q E s:=by
 obtain⟨z,hd,vs,rel,dd⟩:=jH I.hok e;refine kt_call_dict hd dd (by rw[<-rel.length];exact z) λh' dd' hs=>?_;refine h _ _ (I.hok.fresh (kA _)) (I.laid (a:=s.heap.objs.size) (o:=.dK kvs) (t':=s.toks) (λb q hq=>?_) (kA _) (cR z (FB.mpr (Ne.symm (LA I.big))) rel dd'));exact (hs.2 b (LA (BA hq))).trans (uA _ hq)
end
section
variable {X:Cx} {pins:List (Addr×Obj)} {σ:St} {H:Hp} {s:Shared} {a:Addr} {y:V} {u:Value} {A:Around} {E:Value->Shared->Prop}
end
end L2
namespace Att
open PySem PySem.W PySem.Calls PyProof.Rows
theorem Wc {P:Params} {h:Heap}:∀(ns:List Int) (vs:List Value),WellAll P h vs (ns.map WData.int)->IntsAre vs ns:=by
 intro ns
 induction ns with
 |nil=>
  intro vs w;rw[BB] at w;cases w;exact .nil
 |cons n ns ih=>
  intro vs w;rw[yA] at w;cases w with
  |cons a b=>
   cases a;exact .cons _ _ (ih _ b)
theorem Xc {l:OpenLaw} {n:Nat} (hn:l.most=some n) {P:Params} {h:Heap} {args:List WData} {vals:List Value}
  (hpre:l.row.toRowW.claim.pre args=true) (hwl:WellAll P h vals args):
  ∃a vs ns,vals=[Value.ref a]/\args=[WData.list (ns.map WData.int)]/\h.get? a=some {cls:=.type "list",data:=.seq vs.toArray}/\IntsAre vs ns/\ns.length<=n:=by
 have hsh:WShape.hasAll [] args [.list .int]=true:=(pre_splitW hpre).1;have hc:l.pre.holds [] {args:=args}=true:=(pre_splitW hpre).2;obtain⟨d,r,rfl,h1,h2⟩:=hasAllW_cons hsh;obtain rfl:=hasAllW_nil h2;obtain⟨xs,rfl,h3⟩:=hasW_list h1;obtain⟨ns,rfl⟩:=items_int h3;have hlen:ns.length<=n:=by
  unfold OpenLaw.pre at hc;have h4:(WTm.not (.lt (.lit (.int (n:Int))) (.len (.arg 0)))).holds [] {args:=[.list (ns.map .int)]}=true:=by
   have h4:=(holds_andW hc).1;rw[hn] at h4;exact h4
  have h5:=condW_of h4 (w_not (w_lt w_lit (w_len_list (w_arg rfl))));rw[cA] at h5;refine Nat.le_of_not_lt λq=>?_;have q':(n:Int) < ((ns.length:Nat):Int):=⋯
  first
   |(rw[nA q'] at h5;exact absurd h5 (by decide))
   |(simp at h5;omega)
 cases hwl with
 |cons w1 w2=>
  cases w2;cases w1 with
  |list ho hall=>exact⟨_,_,ns,rfl,rfl,ho,Wc ns _ hall,hlen⟩
theorem Yc (l:OpenLaw) (args:List WData):l.row.toRowW.claim.post args (.bool true) args=true:=
 postW_of (r:=l.row.toRowW) (X:=(true == true))
  (show WShape.has [] (.bool true) .bool=true by first|rfl|decide|simp[WShape.has,WShape.arms,WShape.armsAll])
  (show (WTm.eq .res (.lit (.bool true))).value [] {args:=args,res:=some (.bool true),after:=args}=some (.bool (true == true)) from w_eq_bool (w_res rfl) w_lit) rfl
theorem Zc {l:OpenLaw} {n:Nat} {q:Program} {loose:List Str} {XP:(Str->Option Value)->Heap->Prop} {YP:World->Heap->Prop} {d:DefRec}
  (hn:l.most=some n) (hdf:d.params.defaults=[])
  (call:∀(w:World) (s₀ s₁:Shared) (mg mb:Str->Option Value) (fa:Addr) (o:Obj) (pm cd doc:Value) (a:Addr) (vs:List Value) (ns:List Int),
   Ground q loose [] XP w s₀ mg mb s₁.heap->YP w s₁.heap->
   s₁.heap.get? fa=some o->o.data=.func (docDef d.name d.params d.body d.scope pm cd doc)->s₁.heap.CodeRec cd d.name->mg d.name=some (.ref fa)->
   s₁.heap.get? a=some {cls:=.type "list",data:=.seq vs.toArray}->IntsAre vs ns->ns.length<=n->s₁.gens= #[]->
   codeAny (model l.prog w) callerA (.call (.ref fa) ⟨[.ref a],[]⟩) (λr s'=>r=.ok (.ret (.bool true))/\OldK s₁.heap s'.heap/\s'.os=s₁.os/\AllBare s'.gens) s₁):
  WalkO q loose XP YP l.row.toRowW d [] (λf vs=>PySem.call f vs):=by
 intro w s₀ s₁ mg mb G Y fa o pm cd doc dV kV ho hd hcd hD hmg hg args vals as hpre hlay hrd hwl hlo;obtain rfl:dV=.none:=Dflts.none hD hdf;obtain rfl:kV=.none:=Dflts.noKw hD;obtain⟨a,vs,ns,rfl,rfl,hobj,hints,hlen⟩:=Xc hn hpre hwl;refine enter_call (codeAny_mono (call w s₀ s₁ mg mb fa o pm cd doc a vs ns G Y ho (fd_plain hd) hcd hmg hobj hints hlen hg) λr s' hq=>?_);obtain⟨rfl,h2,h3,h4⟩:=hq;exact⟨.inl ⟨.bool true,.bool true,[],rfl,λο=>rfl,.bool true,Yc l _,λο=>⟨List.Pairwise.nil,λο hm=>(nomatch hm)⟩⟩,h2,h3,h4⟩
section
variable {prog:Program} {w:World} {A:Around} {E:Value->Shared->Prop} {s:Shared} {K:Frag}
def ledger (h:Heap) (L d:Addr):List (Addr×Obj):=(List.range h.objs.size).filterMap λa=>if a=L\/a=d then none else (h.get? a).map λo=>(a,o)
end
end Att
namespace L2
open PySem PySem.Spec PyProof.Rows
theorem w4:∀{vs:List Value} {ns:List Int},IntsAre vs ns->sC (ns.map V.int) vs
 |_,_,.nil=>.nil
 |_,_,.cons n t h=>.cons ⟨t,rfl⟩ (w4 h)
def SK (H:Hp):Prop:=∀b,H b=none\/∃o xs,H b=some (.frz o (.lst xs))
theorem jd {P:Program} {w:World} {K:PySem.W.Frag} {mg mb:Str->Option Value} {CX:CXT} {k:Nat} {fa a:Addr} {fd:FuncData} {x:Str} {sp:Sp} {s₁:Shared} {vs:List Value} {ns:List Int}
  (KX:K.In s₁.heap) (hns:s₁.heap.Ns mainGlobals mg) (hb:s₁.heap.Ns builtinsNs mb) (hbb:∀x:Str,x≠"__name__"->mb x=bootBuiltins x) (hlim:s₁.heap.NoLimit) (hg:s₁.gens= #[])
  (ha:s₁.heap.get? a=some {cls:=.type "list",data:=.seq vs.toArray}) (hi:IntsAre vs ns) (hl:ns.length<=sizeLine) (hr:vD k callerA)
  (F:∀base:Heap,K.In base->base.Ns mainGlobals mg->BE P w K mg base CX k fa fd [x] sp) (hbind:∀(s:Shared) (u:Value),BindsTo s fd ⟨[u],[]⟩ [(x,u)])
  (hsp:∀H:Hp,SK H->QC K H a (ns.map V.int)->sp [.ref a] H (λv ο=>v=.bl true) λο ο ο=>False)
  (hCX:∀H e s',CX [] H s₁ (λο ο ο=>False) e s'->False):
  codeAny (model P w) callerA (.call (.ref fa) ⟨[.ref a],[]⟩) (λr s'=>r=.ok (.ret (.bool true))/\OldK s₁.heap s'.heap/\s'.os=s₁.os/\AllBare s'.gens) s₁:=by
 have rv:=w4 hi;have lenV:=hi.length;have core:∀H:Hp,SK H->QC K H a (ns.map V.int)->jE P w H s₁.heap->(∀b,H b≠none->b=a)->(H a≠none->K.lookup a=none)->
   codeAny (model P w) callerA (.call (.ref fa) ⟨[.ref a],[]⟩) (λr s'=>r=.ok (.ret (.bool true))/\OldK s₁.heap s'.heap/\s'.os=s₁.os/\AllBare s'.gens) s₁:=by
  intro H hO hS hok hA hK;have base_of:∀{b:Addr} {o:Obj},s₁.heap.get? b=some o->H b=none->(JF s₁.heap H).get? b=some o:=λe n=>cb e n;have noA:∀{b:Addr} {o:Obj} {es:Array DictEntry} {ep:Nat},s₁.heap.get? b=some o->o.data=.dict es ep->H b=none:=λ{b o es ep} e d=>by
   cases q:H b with
   |none=>rfl
   |some u=>
    have e':b=a:=hA b (by rw[q];simp);subst e';rw[ha] at e;cases e;have d':Data.seq vs.toArray _=Data.dict es ep:=d;cases d'
  have nsK:∀{b:Addr} {m:Str->Option Value},s₁.heap.Ns b m->(JF s₁.heap H).Ns b m:=λ{b m} ⟨o,es,ep,e,d,r⟩=>⟨o,es,ep,base_of e (noA e d),d,r⟩
  have hKb:K.In (JF s₁.heap H):=λb o e=>base_of (KX b o e) (by
   cases q:H b with
   |none=>rfl
   |some u=>
    have e':b=a:=hA b (by rw[q];simp);subst e';rw[hK (by rw[q];simp)] at e;cases e)
  have hM:Mod K mg (JF s₁.heap H):=⟨hKb,nsK hns,⟨mb,nsK hb,hbb⟩,let ⟨mc,h1,h2⟩:=hlim;⟨mc,nsK h1,h2⟩⟩
  have e0:uG P w K mg (JF s₁.heap H) callerA [] s₁ H:=⟨rfl,hM,λb o e=>db e,Nat.le_of_eq (Za _ _),trivial,λb hb=>absurd (show b∈([]:List Addr) from hb) (by simp),hok,.of_eq hg⟩
  refine codeAny_mono ((F _ hKb (nsK hns)).run callerA [] s₁ H ⟨[.ref a],[]⟩ [.ref a] [.ref a] _ _ hr e0 (hbind s₁ (.ref a)) (.cons rfl .nil) (hsp H hO hS)) λr s' h=>?_;cases r with
  |error e=>exact (hCX H e s' h).elim
  |ok fl=>
   cases fl with
   |next=>exact False.elim h
   |brk=>exact False.elim h
   |cont=>exact False.elim h
   |ret u=>
    obtain⟨v,H',os,bare,un,hok',r',q⟩:=h;have q':v=.bl true:=q;subst q';obtain rfl:u=Value.bool true:=r';refine⟨rfl,OldK.of_keep λb o e=>?_,os,bare⟩;cases q:H b with
    |none=>exact un.keep b o e q (by intro z;exact absurd (show b∈([]:List Addr) from z) (by simp)) (by simp)
    |some u=>
     rcases hO b with z|⟨ob,xs,z⟩
     ·rw[q] at z;cases z
     ·have z2:=un.frzs b ob _ z;obtain⟨e1,_⟩:=hok b _ z;obtain⟨e2,_⟩:=hok' b _ z2;rw[e] at e1;cases e1;exact e2
 cases hk:K.lookup a with
 |some o=>
  have e:=KX a o hk;rw[ha] at e;cases e;refine core (λο=>none) (λο=>.inl rfl) (.inr ⟨_,vs.toArray,_,hk,rfl,rfl,rfl,by rw[CA,lenV];exact hl,by simpa using rv⟩) (λb u z=>by have z':(none:Option HO)=some u:=z;cases z') (λb z=>absurd rfl z) λz=>absurd rfl z
 |none=>
  refine core (λb=>if b=a then some (.frz {cls:=.type "list",data:=.seq vs.toArray} (.lst (ns.map V.int))) else none) (λb=>?_) (.inl (.inr ⟨{cls:=.type "list",data:=.seq vs.toArray},iA rfl⟩)) (λb u z=>?_) (λb z=>?_) λο=>hk
  ·by_cases hb:b=a
   ·exact .inr ⟨_,_,iA hb⟩
   ·exact .inl (fA hb)
  ·by_cases hb:b=a
   ·have z':=(iA hb).symm.trans z;cases z';subst hb;exact⟨ha,by rw[cA];exact hl,vs,_,rv,ha⟩
   ·have z':=(fA hb).symm.trans z;cases z'
  ·by_cases hb:b=a
   ·exact hb
   ·exact absurd (fA hb) z
end L2
namespace L2
open PySem PySem.Spec PyProof.Rows
theorem md {l:PySem.W.OpenLaw} {n k:Nat} {q:Program} {loose:List Str} {XP:(Str->Option Value)->Heap->Prop} {YP:World->Heap->Prop} {d:DefRec} {K:Params->PySem.W.Frag} {CX:World->CXT} {sp:World->Sp} {x:Str}
  (hn:l.most=some n) (hn2:n<=sizeLine) (hdf:d.params.defaults=[]) (hr:vD k callerA)
  (hY:∀(w:World) (h:Heap),YP w h->(K w.params).In h)
  (F:∀(w:World) (mg:Str->Option Value) (fa:Addr) (h:Heap),(K w.params).In h->h.Ns mainGlobals mg->mg d.name=some (.ref fa)->
   ∃fd:FuncData,(∀(s:Shared) (u:Value),BindsTo s fd ⟨[u],[]⟩ [(x,u)])/\
    ∀base:Heap,(K w.params).In base->base.Ns mainGlobals mg->BE l.prog w (K w.params) mg base (CX w) k fa fd [x] (sp w))
  (hsp:∀(w:World) (H:Hp) (a:Addr) (ns:List Int),ns.length<=n->SK H->QC (K w.params) H a (ns.map V.int)->sp w [.ref a] H (λv ο=>v=.bl true) λο ο ο=>False)
  (hCX:∀(w:World) (H:Hp) (s:Shared) (e:Value) (s':Shared),CX w [] H s (λο ο ο=>False) e s'->False):
  PySem.W.WalkO q loose XP YP l.row.toRowW d [] (λf vs=>PySem.call f vs):=by
 refine Att.Zc hn hdf λw s₀ s₁ mg mb fa o pm cd doc a vs ns G Y ho hd hcd hmg hobj hints hlen hg=>?_;have KX:=hY w _ Y;obtain⟨fd,hb,hF⟩:=F w mg fa _ KX G.T.g hmg;exact jd KX G.T.g G.T.b G.T.builtins G.T.nolimit hg hobj hints (dB hlen hn2) hr hF hb (λH hO hS=>hsp w H a ns hlen hO hS) λH e s'=>hCX w H s₁ e s'
end L2
namespace L2
open PySem PySem.Spec PyProof.Rows
noncomputable abbrev y4:CXT:=λο ο ο ο ο ο=>False
structure xG (K:PySem.W.Frag) (x qual:Str) (st:Stmt) (f:Addr) (fd:FuncData):Prop where
 ex:∃(oc:Value) (od:Option Addr) (kV doc pm:Value) (an:Option Addr) (cdv ct:Value) (osl:Array (Option Value)),
  fd=PySem.W.fnOf x qual (zC st) (xC st) (cC st) .none kV doc pm an cdv ct/\K.lookup f=some ⟨oc,od,.func fd,osl⟩/\PySem.W.codeIn K cdv qual=true
 kp:PySem.W.keepIn K (.ref f)=true
section
variable {P:Program} {w:World} {K:PySem.W.Frag} {mg:Str->Option Value} {base:Heap}
theorem xG.ok {x qual:Str} {st:Stmt} {f:Addr} {fd:FuncData} {N ps:List Str} {k:Nat} {sp:Sp} (F:xG K x qual st f fd) (S:fC N ps (cC st)) (len:∀vs H Q E,sp vs H Q E->vs.length=ps.length)
  (hbody:∀(cdv:Value) (A:Around) (outer:List Env) (s:Shared) (H:Hp) (vs:List V) (Q:VK) (E:XK),vD k (A.deeper (envOfC qual (cC st) s.heap.objs.size f cdv))->sp vs H Q E->
   ∃t,YF (SD y4 P w K mg base N qual (cC st) f cdv A outer s H E).nox (xC st) t/\t {nx:=λο H'=>Q .non H',rt:=Q} (wE N vs) H):BE P w K mg base y4 (k+1) f fd ps sp:=by
 obtain⟨oc,od,kV,doc,pm,an,cdv,ct,osl,rfl,lk,hcd⟩:=F.ex;refine VQ lk hcd S len λA outer s H vs Q E hr hsp=>?_;obtain⟨t,h,q⟩:=hbody cdv A outer s H vs Q E hr hsp;exact⟨t,h.nox,q⟩
theorem xG.binds {x qual:Str} {st:Stmt} {f:Addr} {fd:FuncData} {ps:List Str} (F:xG K x qual st f fd)
  (h:∀(kV doc pm:Value) (an:Option Addr) (cdv ct:Value) (us:List Value),us.length=ps.length->bindArgs (PySem.W.fnOf x qual (zC st) (xC st) (cC st) .none kV doc pm an cdv ct) ⟨us,[]⟩=pure (ps.zip us)):RD K fd ps []:=by
 obtain⟨oc,od,kV,doc,pm,an,cdv,ct,osl,rfl,lk,hcd⟩:=F.ex;exact .all (h kV doc pm an cdv ct)
theorem fR {x qual:Str} {st:Stmt} {f:Addr} {oc:Value} {od an:Option Addr} {osl:Array (Option Value)} {kV doc pm cdv ct:Value} (l:K.lookup f=some ⟨oc,od,.func (PySem.W.fnOf x qual (zC st) (xC st) (cC st) .none kV doc pm an cdv ct),osl⟩)
 (c:PySem.W.codeIn K cdv qual=true) (k:PySem.W.keepIn K (.ref f)=true):xG K x qual st f (PySem.W.fnOf x qual (zC st) (xC st) (cC st) .none kV doc pm an cdv ct):=⟨⟨oc,od,kV,doc,pm,an,cdv,ct,osl,rfl,l,c⟩,k⟩
end
theorem dD {A:Around} {k:Nat} (hr:vD k A):A.units+1 < cLine:=Nat.lt_of_le_of_lt (Nat.add_le_add_left (by decide:1<=64) _) hr.units
section
variable {X:Cx}
theorem pv (i:Nat) {x:Str} {pos:Pos} (hN:X.N[i]?=some x:=by rfl) (hv:HP X.env.scope x:=by first|exact Or.inl rfl|exact Or.inr (Or.inl rfl)|exact Or.inr (Or.inr rfl)) (hd:(x == ("__debug__":Str))=false:=by decide)
 (hcd:(x == ("__classdict__":Str))=false:=by decide):PE X (.Name x pos) (xI i):=S1 hN hv hd hcd
theorem PN:QD X (.builtin "len") (λxs H Q=>∃a kvs,xs=[V.ref a]/\H a=some (.dK kvs)/\Q (.int kvs.length) H):=by
 intro pins s σ H xs us Q I r h;obtain⟨a,kvs,rfl,ha,q⟩:=h;obtain⟨u,rfl,ru⟩:=IE r;cases ru;exact LN I (.inl ha) λt s' I'=>⟨.int kvs.length,H,I',⟨t,rfl⟩,q⟩
end
theorem wD {A B:Prop} (h:B):if false=true then A else B:=by
 rw[fA wA];exact h
theorem xD {A B:Prop} (h:A):if true=true then A else B:=by
 rw[iA rfl];exact h
theorem UK {c A B:Prop} [Decidable c] (h1:c->A) (h2:¬c->B):if c then A else B:=by
 by_cases h:c
 ·rw[iA h];exact h1 h
 ·rw[fA h];exact h2 h
def uC (H H':Hp):Prop:=∀b o,H b=some o->H' b=some o
theorem uC.trans {H H1 H2:Hp} (a:uC H H1) (b:uC H1 H2):uC H H2:=λc o h=>b c o (a c o h)
theorem uC.free {H H':Hp} (e:uC H H') {l:Addr} (h:H' l=Option.none):H l=Option.none:=by
 cases q:H l with
 |none=>rfl
 |some o=>
  rw[e l o q] at h;cases h
theorem uC.seq {K:PySem.W.Frag} {H H':Hp} {a:Addr} {xs:List V} (e:uC H H') (h:QC K H a xs):QC K H' a xs:=by
 rcases h with (h|⟨o,h⟩)|h
 ·exact .inl (.inl (e _ _ h))
 ·exact .inl (.inr ⟨o,e _ _ h⟩)
 ·exact .inr h
section
variable {κ:Type} [DecidableEq κ]
theorem M4 {kvs:List (κ×V)} {k:κ} (h:gC kvs k=none):¬k∈kvs.map (·.1):=by
 intro m;obtain⟨p,hp,e⟩:=bA.mp m;have q:(kvs.any λkv=>decide (kv.1=k))=true:=List.any_eq_true.mpr ⟨p,hp,nA e⟩;rw[lI,h] at q;exact absurd q (by simp)
theorem gR {kvs:List (κ×V)} {k:κ} {v:V} (h:gC kvs k=some v):k∈kvs.map (·.1):=by
 have q:(kvs.any λkv=>decide (kv.1=k))=true:=by
  rw[lI,h]
  all_goals rfl
 obtain⟨p,hp,e⟩:=List.any_eq_true.mp q;exact bA.mpr ⟨p,hp,UA e⟩
end
end L2
set_option maxHeartbeats 4000000
namespace L2
open PySem PySem.Spec PyProof.Rows
section
variable {M:Model} {A:Around} {E:Value->Shared->Prop} {s:Shared}
def RF (e:Addr) (h:Heap):Prop:=∃o vs,h.get? e=some o/\o.data=.fields vs/\vs[2]?=some .none
theorem AH {B:Heap} {env:Env} {ol:List Env} {L e:Addr} {oe:Obj} {vs:Array Value} {hd0 a0:Value} {nx:Bool} {Q:Unit->Shared->Prop}
  (fr:A.frames=some (env::ol)) (ff:s.heap.FunFrames B (env::ol)) (ef:env.frame=some L) (ge:s.heap.get? e=some oe) (st:B.StaysIn s.heap) (ne:B.get? e=none) (dd:oe.data=.fields vs) (sz:1 < vs.size) (v0:vs[0]?=some a0) (v2:vs[2]?=some .none)
  (q:∀h',Heap.NotedW B (env::ol) e oe.cls a0 (rawInt L) s.heap h'->RF e h'->Q () {s with heap:=h'}):
  wpAny M A (do let a<-frameOf env;let pl<-entryPlaceOf L nx;let b<-EntryCells.newEntry hd0 a .none (rawInt L) .none pl;setField (.ref e) 1 b) Q E s:=by
 have notF:e∉(env::ol).filterMap (·.frame):=λm=>by
  obtain⟨_,o,go,nf⟩:=ff.mem m;rw[ge] at go;cases go;exact nf vs dd
 refine jA (wpAny_frameOf_fun fr ff ef λk1 z1=>jA (wpAny_entryPlaceOf λpl zp=>?_));unfold EntryCells.newEntry newFields;refine jA (wpAny_newObj_type ?_ (zp.sizeOk5 _ _ _ _ _));have g1:k1.get? e=some oe:=(z1.2.1 e notF).trans ge;have st1:B.StaysIn k1:=λb o hb=>(z1.2.1 b λm=>by rw[(ff.mem m).1] at hb;cases hb).trans (st b o hb);generalize ho:({cls:=.type "traceback",dict:=none,data:=.fields ([hd0,.ref L,.none,rawInt L,.none]++(if pl.isEmpty then List.replicate 6 Value.none else pl)).toArray}:Obj)=nT;have hdT:nT.data=.fields ([hd0,.ref L,.none,rawInt L,.none]++(if pl.isEmpty then List.replicate 6 Value.none else pl)).toArray:=by rw[<-ho]
 have hfreed:nT.isFreed=false:=Obj.isFreed_of_fields hdT;have g2:(k1.push nT).get? e=some oe:=uA nT g1;have gT:(k1.push nT).get? k1.objs.size=some nT:=FA k1 hfreed;refine wpAny_setField g2 dd sz ?_;have dis:k1.objs.size≠e:=Nat.ne_of_gt (BA g1);have d3:=Obj.data_mapFields dd (·.setIfInBounds 1 (Value.ref k1.objs.size));have g3:=Heap.get?_update_self (Obj.mapFields (·.setIfInBounds 1 (Value.ref k1.objs.size))) g2 (Obj.isFreed_of_fields d3);have gT3:=(yB (k1.push nT) (Obj.mapFields (·.setIfInBounds 1 (Value.ref k1.objs.size))) (Ne.symm dis)).trans gT;have kp:∀b o,b≠e->k1.get? b=some o->((k1.push nT).update e (Obj.mapFields (·.setIfInBounds 1 (Value.ref k1.objs.size)))).get? b=some o:=λb o n g=>by
  rw[yB _ _ (Ne.symm n)];exact uA _ g
 have rcd:∀b o,s.heap.get? b=some o->(∀vs,o.data≠.fields vs)->b≠e:=λb o g nf z=>by
  rw[z,ge] at g;cases g;exact nf vs dd
 have t3:([hd0,.ref L,.none,rawInt L,.none]++(if pl.isEmpty then List.replicate 6 Value.none else pl)).toArray[3]?=some (rawInt L):=by simp
 refine q _ ⟨λb o hb=>kp b o (λz=>by rw[z,ne] at hb;cases hb) (st1 b o hb),ff.of_keeps λb o g nf=>?_,⟨_,_,k1.objs.size,nT,_,g3,⟨Obj.cls_mapFields _ _,?_⟩,d3,?_,st1.fresh,dis,gT3,hdT,t3⟩,λb o g nf=>?_⟩ ⟨_,_,g3,d3,?_⟩
 ·obtain⟨sl,hs⟩:=z1.2.2 b o g;exact⟨_,kp b _ (rcd b o g nf) hs,rfl⟩
 ·rw[Array.getElem?_setIfInBounds_ne (by decide)];exact v0
 ·simp[sz]
 ·obtain⟨sl,hs⟩:=z1.2.2 b o g;exact⟨sl,kp b _ (rcd b o g nf) hs⟩
 ·rw[Array.getElem?_setIfInBounds_ne (by decide)];exact v2
theorem BH {B:Heap} {l:List Env} {e:Addr} {cls a0 fl:Value} {Q:Unit->Shared->Prop} (st:B.StaysIn s.heap) (ff:s.heap.FunFrames B l) (tr:s.heap.TracedAtW B e cls a0 fl) (nc:RF e s.heap) (ne:B.get? e=none)
  (q:∀h',Heap.FlyingW B l e cls a0 h'->s.heap.UpToSlots h'->RF e h'->Q () {s with heap:=h'}):wpAny M A (setFlight (.ref e) none) Q E s:=by
 obtain⟨oe,vs,T,oT,ts,ge,hc,dd,v1,nT,dis,gT,dT,t3⟩:=tr;have s3:3 < ts.size:=(Array.getElem?_eq_some_iff.mp t3).1;unfold setFlight;refine jA (wpAny_field ge dd v1 ?_);rw[iA (show (Value.ref T != Value.none)=true by simp)];have oth:∀b,b≠T->(s.heap.update T (Obj.mapFields (·.setIfInBounds 3 ((none:Option Addr).elim Value.none λf=>rawInt f)))).get? b=s.heap.get? b:=λb n=>yB _ _ (Ne.symm n);have rcd:∀b o,s.heap.get? b=some o->(∀vs,o.data≠.fields vs)->b≠T:=λb o g nf z=>by
  rw[z,gT] at g;cases g;exact nf ts dT
 refine wpAny_setField gT dT s3 (q _ ⟨λb o hb=>(oth b λz=>by rw[z,nT] at hb;cases hb).trans (st b o hb),ne,ff.of_keeps λb o g nf=>⟨o,(oth b (rcd b o g nf)).trans g,rfl⟩,?_⟩ (λb o g nf=>⟨o.slots,(oth b (rcd b o g nf)).trans g⟩) ?_)
 ·exact⟨oe,vs,T,_,_,(oth e (Ne.symm dis)).trans ge,hc,dd,v1,nT,dis,Heap.get?_update_self _ gT (Obj.isFreed_of_fields (Obj.data_mapFields dT _)),Obj.data_mapFields dT _,by simp[s3]⟩
 ·obtain⟨o,vs',g,d,v⟩:=nc;exact⟨o,vs',(oth e (Ne.symm dis)).trans g,d,v⟩
theorem WK {B:Heap} {env:Env} {ol:List Env} {L e:Addr} {cls a0:Value} {Q:Unit->Shared->Prop} (fr:A.frames=some (env::ol)) (ef:env.frame=some L) (fl:Heap.FlyingW B (env::ol) e cls a0 s.heap) (nc:RF e s.heap)
  (q:∀h',Heap.HeldW B (env::ol) e cls a0 L h'->s.heap.UpToSlots h'->RF e h'->Q () {s with heap:=h'}):wpAny M A (noteFrame (.ref e) env) Q E s:=by
 obtain⟨st,ne,ff,oe,vs,T,oT,ts,ge,⟨hc,v0⟩,dd,v1,nT,dis,gT,dT,t3⟩:=fl;obtain⟨o',vs',g',d',v2⟩:=nc;rw[ge] at g';cases g';rw[dd] at d';cases d';subst hc;unfold noteFrame;simp only[ef];refine jA (wpAny_field ge dd v1 ?_);rw[iA (show (Value.ref T != Value.none)=true by simp)];refine jA (wpAny_field gT dT t3 ?_);rw[fA (show ¬((Value.none == rawInt L)=true) by simp[rawInt])];refine jA (wpAny_setField gT dT (Array.getElem?_eq_some_iff.mp t3).1 ?_);have oth:∀b,b≠T->(s.heap.update T (Obj.mapFields (·.setIfInBounds 3 Value.none))).get? b=s.heap.get? b:=λb n=>yB _ _ (Ne.symm n);have rcd:∀b o,s.heap.get? b=some o->(∀vs,o.data≠.fields vs)->b≠T:=λb o g nf z=>by
  rw[z,gT] at g;cases g;exact nf ts dT
 refine AH fr (ff.of_keeps λb o g nf=>⟨o,(oth b (rcd b o g nf)).trans g,rfl⟩) ef ((oth e (Ne.symm dis)).trans ge) (λb o hb=>(oth b λz=>by rw[z,nT] at hb;cases hb).trans (st b o hb)) ne dd (Array.getElem?_eq_some_iff.mp v1).1 v0 v2 λh' ⟨x1,x2,x3,x4⟩ nc'=>?_;exact q h' ⟨x1,ne,x2,x3⟩ (λb o g nf=>x4 b o ((oth b (rcd b o g nf)).trans g) nf) nc'
theorem KI {B:Heap} {env:Env} {ol:List Env} {L e:Addr} {cls a0:Value} {Q:Unit->Shared->Prop} (fr:A.frames=some (env::ol)) (ef:env.frame=some L) (fl:Heap.FlyingW B (env::ol) e cls a0 s.heap) (nc:RF e s.heap)
  (q:∀h',Heap.FlyingW B ol e cls a0 h'->s.heap.UpToSlots h'->RF e h'->Q () {s with heap:=h'}):wpAny M A (leaving env (.ref e)) Q E s:=by
 unfold leaving;refine jA (WK fr ef fl nc λk ⟨h1,h2,h3,h4⟩ up nk=>?_);refine BH (s:={s with heap:=k}) h1 h3 h4 nk h2 λk' ⟨f1,f2,⟨_,_,f3⟩,f4⟩ up' nk'=>?_;exact q k' ⟨f1,f2,f3,f4⟩ (up.trans up') nk'
theorem gG {B h:Heap} {env:Env} {ol:List Env} {L e:Addr} {cls:Value} {args:List Value} {Q:Unit->Shared->Prop} (fr:A.frames=some (env::ol)) (ef:env.frame=some L) (st:B.StaysIn h) (ff:h.FunFrames B (env::ol)) (mk:Heap.MadeExcOf h s.heap e cls args)
  (q:∀h' t,Heap.FlyingW B ol e cls (.ref t) h'->s.heap.UpToSlots h'->RF e h'->Q () {s with heap:=h'}):wpAny M A (leaving env (.ref e)) Q E s:=by
 obtain⟨t,ge,_,_⟩:=mk.there;have new:∀b,h.get? b=none->B.get? b=none:=λb hb=>by
  cases z:B.get? b with
  |none=>rfl
  |some o=>have:=st b o z;rw[hb] at this;cases this
 unfold leaving noteFrame;simp only[ef];refine jA (jA (wpAny_field ge rfl (x:=.none) rfl ?_));rw[fA (by decide)];refine AH fr (ff.of_keeps λb o hb ο=>⟨o,mk.keeps b o hb,rfl⟩) ef ge (λb o hb=>mk.keeps b o (st b o hb)) (new e mk.new) rfl (by simp) (a0:=.ref t) rfl rfl λk ⟨x1,x2,x3,x4⟩ nk=>?_;refine BH (s:={s with heap:=k}) x1 x2 x3 nk (new e mk.new) λk' ⟨f1,f2,⟨_,_,f3⟩,f4⟩ up' nk'=>?_;exact q k' t ⟨f1,f2,f3,f4⟩ (Heap.UpToSlots.trans (λb o g nf=>x4 b o g nf) up') nk'
end
end L2
namespace L2
open PySem PySem.Spec PyProof.Rows
structure N4 (B:Heap) (l:List Env) (h:Heap) (H H':Hp) (h':Heap) (ea:Addr) (cls:Value):Prop where
 fl:∃a0,Heap.FlyingW B l ea cls a0 h'
 trk:∀b u,H' b=some u->∃o,B.get? b=some o
 kept:∀b o,h.get? b=some o->H b=none->b∉PD l->B.get? b=some o
 alive:∀b o,h.get? b=some o->b∉PD l->∃o',B.get? b=some o'
 nc:RF ea h'
def iG (P:Program) (w:World):CXT:=λouter H s E e s'=>∃ea cls H' B,e=.ref ea/\s'.os=s.os/\AllBare s'.gens/\Un (PD outer) [] H H' s.heap s'.heap/\jE P w H' s'.heap/\N4 B outer s.heap H H' s'.heap ea cls/\E cls none H'
noncomputable abbrev XKs:=Value->St->Hp->Prop
def XW (X:Cx) (K:XKs):Prop:=∀(pins:List (Addr×Obj)) (σ:St) (H:Hp) (s s':Shared) (ea:Addr) (cls:Value) (H':Hp) (B:Heap),kC X pins σ H s->s'.os=s.os->AllBare s'.gens->
 Un (PD X.stack) [] H H' s.heap s'.heap->jE X.prog X.w H' s'.heap->N4 B X.stack s.heap H H' s'.heap ea cls->K cls σ H'->X.xe (.ref ea) s'
theorem O4 {env:Env} {l:List Env} {L:Addr} (h:env.frame=some L):PD (env::l)=L::PD l:=by
 unfold PD;rw[List.filterMap_cons,h]
theorem jE.flown {P:Program} {w:World} {H:Hp} {B h h':Heap} (x:jE P w H h) (t:∀b u,H b=some u->∃o,B.get? b=some o) (s:B.StaysIn h) (s':B.StaysIn h'):jE P w H h':=λa o e=>
 (x a o e).stay (λb u hb q=>by
  have hB:∃o,B.get? b=some o:=by
   rcases hb with rfl|hb
   ·exact t _ _ e
   ·exact t _ _ hb
  obtain⟨o',ho⟩:=hB;have e1:=s b o' ho;rw[q] at e1;cases e1;exact s' b _ ho) (λο q=>q) λο ο q=>q
theorem GC {P:Program} {w:World} {K:PySem.W.Frag} {mg:Str->Option Value} {base:Heap} {N:List Str} {qual:Str} {scope:Scope} {f:Addr} {cd:Value} {A:Around} {outer:List Env} {s0:Shared} {H0:Hp} {E:XK}:
  XW (SD (iG P w) P w K mg base N qual scope f cd A outer s0 H0 E) (λc ο H'=>E c none H'):=by
 intro pins σ H s s' ea cls H' B I os bare un hok fly hK;have I':=I.call' (s':=s') (ch:=[]) os un hok bare (λb z=>absurd z (by simp));have hfr:=I.ok.frames;have hstk:(SD (iG P w) P w K mg base N qual scope f cd A outer s0 H0 E).stack=envOfC qual scope s0.heap.objs.size f cd::outer:=rfl;rw[hstk] at hfr;obtain⟨a0,hfl⟩:=fly.fl;have hf:(envOfC qual scope s0.heap.objs.size f cd).frame=some s0.heap.objs.size:=rfl;show wpAny _ _ (leaving (envOfC qual scope s0.heap.objs.size f cd) (.ref ea)) _ _ s';refine KI hfr hf hfl fly.nc λh' fl' up nc'=>?_;have hfs:PD (envOfC qual scope s0.heap.objs.size f cd::outer)=s0.heap.objs.size::PD outer:=O4 hf;have nf:∀b o,s0.heap.get? b=some o->b∉PD outer->b∉PD (envOfC qual scope s0.heap.objs.size f cd::outer):=λb o e n z=>by
  rw[hfs] at z;rcases vA.mp z with z|z
  ·exact absurd (BA e) (by rw[z];exact VB _)
  ·exact n z
 have stay:∀b o,s0.heap.get? b=some o->H0 b=none->b∉PD outer->B.get? b=some o:=λb o e n hb=>
  fly.kept b o (I.base.keep b o e n hb (by intro z;exact absurd z (by simp[SD]))) (I.base.free b o e n (by intro z;exact absurd z (by simp[SD]))) (nf b o e hb)
 have live:∀b o,s0.heap.get? b=some o->b∉PD outer->∃o',B.get? b=some o':=λb o e hb=>by
  obtain⟨o1,e1⟩:=I.base.there b o e (by intro z;exact absurd z (by simp[SD]));exact fly.alive b o1 e1 (nf b o e hb)
 refine⟨ea,cls,H',B,rfl,I'.os,bare,?_,hok.flown fly.trk hfl.1 fl'.1,⟨⟨a0,fl'⟩,fly.trk,stay,live,nc'⟩,hK⟩;have noA:∀b:Addr,b∉(SD (iG P w) P w K mg base N qual scope f cd A outer s0 H0 E).ex:=λb z=>absurd z (by simp[SD]);have slotOf:∀b,b∈PD outer->∀o,s'.heap.get? b=some o->∃sl,h'.get? b=some {o with slots:=sl}:=λb hb o e=>by
  have hm:b∈PD (envOfC qual scope s0.heap.objs.size f cd::outer):=by rw[hfs];exact xA _ hb
  obtain⟨_,o',ho',hd⟩:=hfl.2.2.1.mem hm;rw[e] at ho';cases ho';exact up b o e hd
 refine⟨λb o e n hb ο=>fl'.1 b o (stay b o e n hb),λb o e n hb ο=>?_,λb o e n ο=>I'.base.free b o e n (noA b),λb o e ο=>?_,I'.base.tups,I'.base.frzs,I'.base.tbls⟩
 ·obtain⟨sl,e1⟩:=I'.base.slot b o e n hb (noA b);obtain⟨sl',e2⟩:=slotOf b hb _ e1;exact⟨sl',e2⟩
 ·by_cases hb:b∈PD outer
  ·obtain⟨o1,e1⟩:=I'.base.there b o e (noA b);obtain⟨sl,e2⟩:=slotOf b hb _ e1;exact⟨_,e2⟩
  ·obtain⟨o1,e1⟩:=live b o e hb;exact⟨o1,fl'.1 b o1 e1⟩
def TD (P:Program) (w:World) (K:PySem.W.Frag) (mg:Str->Option Value) (base:Heap) (x:Str) (k:Nat) (ps:List Str) (dvs:List V) (sp:Sp):Prop:=
 ∃f fd ds,mg x=some (.ref f)/\PySem.W.keepIn K (.ref f)=true/\RD K fd ps ds/\sC dvs ds/\BE P w K mg base (iG P w) k f fd ps sp
def AC (P:Program) (w:World) (K:PySem.W.Frag) (mg:Str->Option Value) (base:Heap) (C:Addr) (m:Str) (k:Nat) (ps:List Str) (dvs:List V) (sp:Sp):Prop:=
 ∃f fd ds,tG K C m f/\RD K fd ps ds/\sC dvs ds/\BE P w K mg base (iG P w) k f fd ps sp
def XE (P:Program) (w:World) (K:PySem.W.Frag) (mg:Str->Option Value) (base:Heap) (x:Str) (C:Addr) (k:Nat) (ps:List Str) (dvs:List V) (sp:Sp):Prop:=
 ∃f fd ds,mg x=some (.ref C)/\Mk K C f/\RD K fd ps ds/\sC dvs ds/\BE P w K mg base (iG P w) k f fd ps sp
def CH (Kx:XKs) (sp:Sp) (dvs:List V) (t:TA):TE:=λσ H Q=>t σ H λvs H1=>sp (vs++dvs) H1 Q (λc ο H'=>Kx c σ H')
def yG (Kx:XKs) (C:Addr) (m:Str) (sp:Sp) (dvs:List V) (ta:TE) (t:TA):TE:=λσ H Q=>ta σ H λx H1=>∃a dx fs,x=.ref a/\H1 a=some (.ins C dx fs)/\fs.lookup m=none/\
 t σ H1 λvs H2=>sp (x::(vs++dvs)) H2 Q (λc ο H'=>Kx c σ H')
def zG (Kx:XKs) (C:Addr) (sp:Sp) (dvs:List V) (t:TA):TE:=λσ H Q=>t σ H λvs H1=>∀x dx,H1 x=none->H1 dx=none->dx≠x->
 sp (.ref x::(vs++dvs)) (jC (jC H1 dx (.own x)) x (.ins C dx [])) (λv H2=>v=.non/\Q (.ref x) H2) (λc ο H'=>Kx c σ H')
section
variable {X:Cx} {Kx:XKs} {k:Nat} {f C:Addr} {fd:FuncData} {ps:List Str} {sp:Sp} {dvs:List V} {ds:List Value} {x m:Str} {p pos apos:Pos} {e o:Expr} {es:List Expr} {ta:TE} {t:TA}
theorem iR {pins:List (Addr×Obj)} {σ:St} {H:Hp} {s:Shared} {Q:VK} {us:List Value} {vs:List V} (F:BE X.prog X.w X.K X.mg X.base (iG X.prog X.w) k f fd ps sp) (hr:vD k X.A) (hb:RD X.K fd ps ds) (hd:sC dvs ds) (hx:XW X Kx)
  (I:kC X pins σ H s) (r:sC vs us) (h:sp (vs++dvs) H Q (λc ο H'=>Kx c σ H')):wpAny (model X.prog X.w) X.A (call (.ref f) us) (EP X pins σ Q) X.xe s:=by
 have r2:sC (vs++dvs) (us++ds):=r.append hd;have hl:(us++ds).length=ps.length:=by rw[<-r2.length];exact F.len _ _ _ _ h
 refine wpAny_call (codeAny_mono (F.run X.A X.stack s H ⟨us,[]⟩ (us++ds) (vs++dvs) Q _ hr I.env0 (hb s us I.kIn hl) r2 h) λr s' hq=>?_);cases r with
 |error e=>
  obtain⟨ea,cls,H',B,rfl,os,bare,un,hok,fly,hK⟩:=hq;exact hx pins σ H s s' ea cls H' B I os bare un hok fly hK
 |ok fl=>
  cases fl with
  |ret u=>exact I.after hq
  |next=>exact False.elim hq
  |brk=>exact False.elim hq
  |cont=>exact False.elim hq
theorem DD (F:TD X.prog X.w X.K X.mg X.base x k ps dvs sp) (hr:vD k X.A) (hx:XW X Kx) (ha:PA X (e::es) t) (hg:Gl X x:=by rfl) (hdb:(x == ("__debug__":Str))=false:=by decide)
  (he:starEach (e::es) X.env=(false,eval e X.env)::starEach es X.env:=by rfl) (hpl:(backTo pos (starEach es X.env)).any (·.1)=false:=by rfl):
  PE X (.Call (.Name x p) (e::es) [] pos) (CH Kx sp dvs t):=by
 obtain⟨f,fd,ds,hm,hk,hb,hd,F⟩:=F;intro pins s σ H Q I h;refine wpAny_Call_Name_kw (cN I hg hm ?_ hdb);refine PySem.W.callWith_K (h₀:=X.base) I.ok.mod.kin hk (KC (ha pos pins s σ H _ I h) λus s1 ⟨vs,H1,I1,r,q⟩=>⟨I1.kIn,?_⟩) he hpl;exact iR F hr hb hd hx I1 r q
theorem HD {pl:Sem Bool} (ho:PE X o ta) (c:OF X.K C) (F:AC X.prog X.w X.K X.mg X.base C m k ps dvs sp) (hr:vD k X.A) (hx:XW X Kx) (ha:PA X (e::es) t)
  (hst:starEach (e::es) X.env=(false,eval e X.env)::starEach es X.env:=by rfl) (hpl:(backTo pos (starEach es X.env)).any (·.1)=false:=by rfl)
  (ht:eval (.Call (.Attribute o m apos) (e::es) [] pos) X.env=(do
   let ov<-eval o X.env
   standAt apos.atName
   let (f,first)<-holding [ov] (getMethod ov m pl)
   callWith pos f first (backTo pos (starEach (e::es) X.env)) (backToKw pos (keywordEach [] X.env))):=by rfl):
  PE X (.Call (.Attribute o m apos) (e::es) [] pos) (yG Kx C m sp dvs ta t):=by
 obtain⟨f,fd,ds,hm,hb,hd,F⟩:=F;intro pins s σ H Q I h;refine PySem.W.methodCall_KW (pl:=pl) (KC (ho pins s σ H _ I h) λu s1 zz=>?_) ht;obtain⟨x,H1,I1,rx,a,dx,fs,ex,ea,l,q⟩:=zz;subst ex;obtain rfl:u=Value.ref a:=rx;refine i3 I1 ea c hm l ?_;refine PySem.W.callWith_K (first:=[.ref a]) (h₀:=X.base) I.ok.mod.kin hm.kp (KC (ha pos pins s1 σ H1 _ I1 q) λus s2 ⟨vs,H2,I2,r,q2⟩=>⟨I2.kIn,?_⟩) hst hpl;exact iR (us:=.ref a::us) (vs:=.ref a::vs) F hr hb hd hx I2 (.cons rfl r) q2
theorem mI {pl:Sem Bool} (ho:PE X o ta) (c:OF X.K C) (F:AC X.prog X.w X.K X.mg X.base C m k ps dvs sp) (hr:vD k X.A) (hx:XW X Kx)
  (ht:eval (.Call (.Attribute o m apos) [] [] pos) X.env=(do
   let ov<-eval o X.env
   standAt apos.atName
   let (f,first)<-holding [ov] (getMethod ov m pl)
   callWith pos f first (backTo pos (starEach [] X.env)) (backToKw pos (keywordEach [] X.env))):=by rfl):
  PE X (.Call (.Attribute o m apos) [] [] pos) (yG Kx C m sp dvs ta tNil):=by
 obtain⟨f,fd,ds,hm,hb,hd,F⟩:=F;intro pins s σ H Q I h;refine PySem.W.methodCall_KW (pl:=pl) (KC (ho pins s σ H _ I h) λu s1 zz=>?_) ht;obtain⟨x,H1,I1,rx,a,dx,fs,ex,ea,l,q⟩:=zz;subst ex;obtain rfl:u=Value.ref a:=rx;refine i3 I1 ea c hm l ?_;exact PySem.W.callWith_K0 (first:=[.ref a]) I1.kIn hm.kp (iR (us:=[.ref a]) (vs:=[.ref a]) F hr hb hd hx I1 (.cons rfl .nil) q)
theorem P4 {pins:List (Addr×Obj)} {σ:St} {H:Hp} {s:Shared} {Q:VK} {us:List Value} {vs:List V} (M:Mk X.K C f) (F:BE X.prog X.w X.K X.mg X.base (iG X.prog X.w) k f fd ps sp) (hr:vD (k+1) X.A) (hb:RD X.K fd ps ds) (hd:sC dvs ds)
  (hx:XW X Kx) (I:kC X pins σ H s) (r:sC vs us)
  (h:∀x dx,H x=none->H dx=none->dx≠x->sp (.ref x::(vs++dvs)) (jC (jC H dx (.own x)) x (.ins C dx [])) (λv H2=>v=.non/\Q (.ref x) H2) (λc ο H'=>Kx c σ H')):
  wpAny (model X.prog X.w) X.A (call (.ref C) us) (EP X pins σ Q) X.xe s:=by
 have hq:=h (s.heap.objs.size+1) s.heap.objs.size (I.hok.fresh (Nat.le_succ _)) (I.hok.fresh (kA _)) (LA (Nat.lt_succ_self _));have I2:=kC.made (C:=C) I;have r2:sC (V.ref (s.heap.objs.size+1)::(vs++dvs)) (Value.ref (s.heap.objs.size+1)::(us++ds)):=.cons rfl (r.append hd);have hl:(Value.ref (s.heap.objs.size+1)::us++ds).length=ps.length:=by
  have e:=r2.length;rw[F.len _ _ _ _ hq] at e;exact e.symm
 refine wpAny_call (Wb (f:=f) I.kIn M.makes M.init (EB.mp M.fn) (codeAny_mono (F.run _ X.stack _ _ ⟨Value.ref (s.heap.objs.size+1)::us,[]⟩ (Value.ref (s.heap.objs.size+1)::(us++ds)) _ _ _ (hr.make C us [])
  (I2.env0.make C us []) (hb _ (Value.ref (s.heap.objs.size+1)::us) I2.kIn hl) r2 hq) λr s' hq'=>?_))
 cases r with
 |error e=>
  obtain⟨ea,cls,H',B,rfl,os,bare,un,hok,fly,hK⟩:=hq';exact hx pins σ _ _ s' ea cls H' B I2 os bare un hok fly hK
 |ok fl=>
  cases fl with
  |ret u=>
   obtain⟨v,H',I3,rv,ev,q3⟩:=I2.after hq';subst ev;exact⟨rv,⟨V.ref (s.heap.objs.size+1),H',I3,rfl,q3⟩⟩
  |next=>exact False.elim hq'
  |brk=>exact False.elim hq'
  |cont=>exact False.elim hq'
theorem jR (F:XE X.prog X.w X.K X.mg X.base x C k ps dvs sp) (hr:vD (k+1) X.A) (hx:XW X Kx) (ha:PA X (e::es) t) (hg:Gl X x:=by rfl) (hdb:(x == ("__debug__":Str))=false:=by decide)
  (he:starEach (e::es) X.env=(false,eval e X.env)::starEach es X.env:=by rfl) (hpl:(backTo pos (starEach es X.env)).any (·.1)=false:=by rfl):
  PE X (.Call (.Name x p) (e::es) [] pos) (zG Kx C sp dvs t):=by
 obtain⟨f,fd,ds,hm,M,hb,hd,F⟩:=F;intro pins s σ H Q I h;refine wpAny_Call_Name_kw (cN I hg hm ?_ hdb);refine PySem.W.callWith_K (h₀:=X.base) I.ok.mod.kin M.kp (KC (ha pos pins s σ H _ I h) λus s1 ⟨vs,H1,I1,r,q⟩=>⟨I1.kIn,?_⟩) he hpl;exact P4 M F hr hb hd hx I1 r q
theorem Q4 (F:XE X.prog X.w X.K X.mg X.base x C k ps dvs sp) (hr:vD (k+1) X.A) (hx:XW X Kx) (hg:Gl X x:=by rfl) (hdb:(x == ("__debug__":Str))=false:=by decide):
  PE X (.Call (.Name x p) [] [] pos) (zG Kx C sp dvs tNil):=by
 obtain⟨f,fd,ds,hm,M,hb,hd,F⟩:=F;intro pins s σ H Q I h;refine wpAny_Call_Name_kw (cN I hg hm ?_ hdb);exact PySem.W.callWith_K0 I.kIn M.kp (P4 (us:=[]) M F hr hb hd hx I .nil h)
theorem QN {v:V} (hg:Gl X x) (hm:∃u,X.mg x=some u/\pC v u) (hd:(x == ("__debug__":Str))=false:=by decide):PE X (.Name x pos) (tC v):=by
 obtain⟨u,hm,r⟩:=hm;exact gb hg hm r hd
theorem UP {n:String} (hg:Gl X x) (hm:X.mg x=none) (hv:bootBuiltins x=some (.type n)) (hn:x≠"__name__":=by decide) (hd:(x == ("__debug__":Str))=false:=by decide):PE X (.Name x pos) (tC (.ty n)):=jb hg hm hv rfl hn hd
end
def sF (K:PySem.W.Frag) (mg:Str->Option Value) (x qual:Str) (st:Stmt) (ps:List Str) (dvs:List V):Prop:=∃f fd ds,mg x=some (.ref f)/\xG K x qual st f fd/\RD K fd ps ds/\sC dvs ds
def TC (K:PySem.W.Frag) (C:Addr) (m qual:Str) (st:Stmt) (ps:List Str) (dvs:List V):Prop:=∃f fd ds,tG K C m f/\xG K m qual st f fd/\RD K fd ps ds/\sC dvs ds
def AG (K:PySem.W.Frag) (mg:Str->Option Value) (x:Str) (C:Addr) (qual:Str) (st:Stmt) (ps:List Str) (dvs:List V):Prop:=∃f fd ds,mg x=some (.ref C)/\Mk K C f/\xG K "__init__" qual st f fd/\RD K fd ps ds/\sC dvs ds
section
variable {P:Program} {w:World} {K:PySem.W.Frag} {mg:Str->Option Value} {base:Heap}
def eF (P:Program) (w:World) (K:PySem.W.Frag) (mg:Str->Option Value) (base:Heap) (qual:Str) (st:Stmt) (N:List Str) (k:Nat) (sp:Sp):Prop:=
 ∀(f:Addr) (cdv:Value) (A:Around) (outer:List Env) (s:Shared) (H:Hp) (vs:List V) (Q:VK) (E:XK),vD k (A.deeper (envOfC qual (cC st) s.heap.objs.size f cdv))->sp vs H Q E->
  ∃t,YF (SD (iG P w) P w K mg base N qual (cC st) f cdv A outer s H E) (xC st) t/\t {nx:=λο H'=>Q .non H',rt:=Q} (wE N vs) H
theorem xG.okE {x qual:Str} {st:Stmt} {f:Addr} {fd:FuncData} {N ps:List Str} {k:Nat} {sp:Sp} (F:xG K x qual st f fd) (S:fC N ps (cC st)) (len:∀vs H Q E,sp vs H Q E->vs.length=ps.length)
  (hbody:eF P w K mg base qual st N k sp):BE P w K mg base (iG P w) (k+1) f fd ps sp:=by
 obtain⟨oc,od,kV,doc,pm,an,cdv,ct,osl,rfl,lk,hcd⟩:=F.ex;exact VQ lk hcd S len λA outer s H vs Q E hr hsp=>hbody f cdv A outer s H vs Q E hr hsp
theorem sF.have {x qual:Str} {st:Stmt} {N ps:List Str} {dvs:List V} {k:Nat} {sp:Sp} (R:sF K mg x qual st ps dvs) (S:fC N ps (cC st)) (len:∀vs H Q E,sp vs H Q E->vs.length=ps.length)
  (hbody:eF P w K mg base qual st N k sp):TD P w K mg base x (k+1) ps dvs sp:=
 let ⟨f,fd,ds,hm,F,hb,hd⟩:=R
 ⟨f,fd,ds,hm,F.kp,hb,hd,F.okE S len hbody⟩
theorem TC.have {C:Addr} {m qual:Str} {st:Stmt} {N ps:List Str} {dvs:List V} {k:Nat} {sp:Sp} (R:TC K C m qual st ps dvs) (S:fC N ps (cC st)) (len:∀vs H Q E,sp vs H Q E->vs.length=ps.length)
  (hbody:eF P w K mg base qual st N k sp):AC P w K mg base C m (k+1) ps dvs sp:=
 let ⟨f,fd,ds,hm,F,hb,hd⟩:=R
 ⟨f,fd,ds,hm,hb,hd,F.okE S len hbody⟩
theorem AG.have {C:Addr} {x qual:Str} {st:Stmt} {N ps:List Str} {dvs:List V} {k:Nat} {sp:Sp} (R:AG K mg x C qual st ps dvs) (S:fC N ps (cC st)) (len:∀vs H Q E,sp vs H Q E->vs.length=ps.length)
  (hbody:eF P w K mg base qual st N k sp):XE P w K mg base x C (k+1) ps dvs sp:=
 let ⟨f,fd,ds,hm,M,F,hb,hd⟩:=R
 ⟨f,fd,ds,hm,M,hb,hd,F.okE S len hbody⟩
end
end L2
namespace L2
open PySem PySem.Spec PyProof.Rows
def XR (X:Cx) (K:XKs):Prop:=∀(pins:List (Addr×Obj)) (σ:St) (H:Hp) (s:Shared) (h':Heap) (e:Addr) (cls:Value) (args:List Value),kC X pins σ H s->Heap.MadeExcOf s.heap h' e cls args->K cls σ H->X.xe (.ref e) {s with heap:=h'}
theorem jE.alive {P:Program} {w:World} {H:Hp} {h:Heap} (x:jE P w H h) {b:Addr} {u:HO} (e:H b=some u):∃o,h.get? b=some o:=by
 have q:=x b u e;cases u with
 |lst xs=>obtain⟨_,_,_,_,e⟩:=q;exact⟨_,e⟩
 |tup xs=>obtain⟨_,_,_,⟨o,e,_⟩⟩:=q;exact⟨_,e⟩
 |dK kvs=>obtain⟨_,_,_,_,o,_,_,e,_⟩:=q;exact⟨_,e⟩
 |dT kvs=>obtain⟨_,_,_,_,o,_,_,e,_⟩:=q;exact⟨_,e⟩
 |set S n=>obtain⟨o,_,_,_,e,_⟩:=q;exact⟨_,e⟩
 |ins C dx fs=>obtain⟨_,_,_,e,_⟩:=q;exact⟨_,e⟩
 |own y=>exact q
 |xd fs=>obtain⟨_,⟨_,_,_,e,_⟩,_⟩:=q;exact⟨_,e⟩
 |rng lo hi=>obtain⟨_,_,_,e⟩:=q;exact⟨_,e⟩
 |frz ob u=>obtain⟨e,_⟩:=q;exact⟨_,e⟩
 |tbl ps=>exact⟨_,q⟩
 |met f y=>exact⟨_,q⟩
 |ext φ=>obtain⟨_,e,_⟩:=q;exact e
theorem OG {P:Program} {w:World} {K:PySem.W.Frag} {mg:Str->Option Value} {base:Heap} {N:List Str} {qual:Str} {scope:Scope} {f:Addr} {cd:Value} {A:Around} {outer:List Env} {s0:Shared} {H0:Hp} {E:XK}:
  XR (SD (iG P w) P w K mg base N qual scope f cd A outer s0 H0 E) (λc ο H'=>E c none H'):=by
 intro pins σ H s h1 ea cls args I mk hK;have hfr:=I.ok.frames;have hstk:(SD (iG P w) P w K mg base N qual scope f cd A outer s0 H0 E).stack=envOfC qual scope s0.heap.objs.size f cd::outer:=rfl;have hfun:=I.stack;have hfree:=I.stkFree;rw[hstk] at hfr hfun hfree;have hf:(envOfC qual scope s0.heap.objs.size f cd).frame=some s0.heap.objs.size:=rfl;have hfs:PD (envOfC qual scope s0.heap.objs.size f cd::outer)=s0.heap.objs.size::PD outer:=O4 hf;have noA:∀b:Addr,b∉(SD (iG P w) P w K mg base N qual scope f cd A outer s0 H0 E).ex:=λb z=>absurd z (by simp[SD]);have nf:∀b o,s0.heap.get? b=some o->b∉PD outer->b∉PD (envOfC qual scope s0.heap.objs.size f cd::outer):=λb o e n z=>by
  rw[hfs] at z;rcases vA.mp z with z|z
  ·exact absurd (BA e) (by rw[z];exact VB _)
  ·exact n z
 show wpAny _ _ (leaving (envOfC qual scope s0.heap.objs.size f cd) (.ref ea)) _ _ _;refine gG (B:=PySem.W.hideAll s.heap (PD (envOfC qual scope s0.heap.objs.size f cd::outer))) (h:=s.heap) hfr hf (λb o q=>PySem.W.of_hideAll _ q)
  (PySem.W.funFrames_hide hfun λenv he b hb=>List.mem_filterMap.mpr ⟨env,he,hb⟩) mk λh' t fl' up nc'=>?_
 have inB:∀b o,s.heap.get? b=some o->b∉PD (envOfC qual scope s0.heap.objs.size f cd::outer)->(PySem.W.hideAll s.heap (PD (envOfC qual scope s0.heap.objs.size f cd::outer))).get? b=some o:=λb o e n=>PySem.W.hideAll_get _ e n;have stay:∀b o,s0.heap.get? b=some o->H0 b=none->b∉PD outer->(PySem.W.hideAll s.heap (PD (envOfC qual scope s0.heap.objs.size f cd::outer))).get? b=some o:=λb o e n hb=>
  inB b o (I.base.keep b o e n hb (noA b)) (nf b o e hb)
 have live:∀b o,s0.heap.get? b=some o->b∉PD outer->∃o',(PySem.W.hideAll s.heap (PD (envOfC qual scope s0.heap.objs.size f cd::outer))).get? b=some o':=λb o e hb=>by
  obtain⟨o1,e1⟩:=I.base.there b o e (noA b);exact⟨o1,inB b o1 e1 (nf b o e hb)⟩
 have trk:∀b u,H b=some u->∃o,(PySem.W.hideAll s.heap (PD (envOfC qual scope s0.heap.objs.size f cd::outer))).get? b=some o:=λb u e=>by
  obtain⟨o,ho⟩:=I.hok.alive e;exact⟨o,inB b o ho λz=>by rw[hfree b z] at e;cases e⟩
 have slotOf:∀b,b∈PD outer->∀o,s.heap.get? b=some o->∃sl,h'.get? b=some {o with slots:=sl}:=λb hb o e=>by
  have hm:b∈PD (envOfC qual scope s0.heap.objs.size f cd::outer):=by rw[hfs];exact xA _ hb
  obtain⟨_,o',ho',hd⟩:=hfun.mem hm;rw[e] at ho';cases ho';exact up b o (mk.keeps b o e) hd
 refine⟨ea,cls,H,_,rfl,I.os,I.bare,?_,I.hok.flown trk (λb o q=>PySem.W.of_hideAll _ q) fl'.1,⟨⟨_,fl'⟩,trk,stay,live,nc'⟩,hK⟩;refine⟨λb o e n hb ο=>fl'.1 b o (stay b o e n hb),λb o e n hb ο=>?_,λb o e n ο=>I.base.free b o e n (noA b),λb o e ο=>?_,I.base.tups,I.base.frzs,I.base.tbls⟩
 ·obtain⟨sl,e1⟩:=I.base.slot b o e n hb (noA b);obtain⟨sl',e2⟩:=slotOf b hb _ e1;exact⟨sl',e2⟩
 ·by_cases hb:b∈PD outer
  ·obtain⟨o1,e1⟩:=I.base.there b o e (noA b);obtain⟨sl,e2⟩:=slotOf b hb _ e1;exact⟨_,e2⟩
  ·obtain⟨o1,e1⟩:=live b o e hb;exact⟨o1,fl'.1 b o1 e1⟩
abbrev lE:List Value:=[.type "ValueError",.type "Exception",.type "BaseException",.type "object"]
structure XC (K:PySem.W.Frag) (mg:Str->Option Value) (x:Str) (C:Addr):Prop where
 m:mg x=some (.ref C)
 ex:PySem.W.excIn K C lE "ValueError.__new__"=true
set_option tactic.hygienic true in
theorem qd {K:PySem.W.Frag} {h:Heap} {C:Addr} {l:List Value} {id:String} (hin:K.In h) (q:PySem.W.excIn K C l id=true):
  ∃bm N nm qn bs hdct sn sub ab col dd k0 k1 k2 k3 k5 mN,h.get? C=some (excClassObj nm qn C N bs bm hdct sn sub ab col dd k0 k1 k2 k3 k5 id)/\h.Ns N mN/\mN "__init__"=none/\OwnTail h l bm:=by
 unfold PySem.W.excIn at q
 split at q
 case h_2=>cases q
 case h_1 dd cd sl ho=>
  split at q
  case h_2=>cases q
  case h_1 C' bm k0 k1 k2 k3 n k5 hm hs=>
   rw[MA,MA,MA,MA,MA] at q;obtain⟨⟨⟨⟨⟨q1,q2⟩,q3⟩,q4⟩,q5⟩,q6⟩:=q;have e1:=EB.mp q1;have e2:=EB.mp q2;have e6:=EB.mp q6;subst e1 e2;obtain⟨nm,bs,mro,ns,qn,hd,sn,sub,ab,col,del⟩:=cd;have e3:del=false:=by
    cases del with
    |false=>rfl
    |true=>cases q3
   have hm':mro=.ref C'::bm:=hm;subst e3 hm';obtain⟨l'⟩:=sl;have hs':l'=[k0,k1,k2,k3,some (.builtin n),k5]:=hs;subst hs';exact⟨bm,ns,nm,qn,bs,hd,sn,sub,ab,col,dd,k0,k1,k2,k3,k5,_,hin _ _ ho,.of_isNs (PySem.W.isNs_of_in hin q5),PySem.W.nsMap_none_of_in hin q5 e6,PySem.W.tail_of_in hin q4⟩
def DH (Kx:XKs) (C:Addr) (t:TA):TS:=λο σ H=>t σ H λvs H1=>vs.length<=sizeLine/\Kx (.ref C) σ H1
theorem QG {X:Cx} {Kx:XKs} {C:Addr} {x:Str} {np cpos pos:Pos} {e:Expr} {es:List Expr} {t:TA} (hx:XR X Kx) (hc:X.calm=true) (c:XC X.K X.mg x C) (ha:PA X (e::es) t) (hg:Gl X x:=by rfl) (hd:(x == ("__debug__":Str))=false:=by decide)
  (he:starEach (e::es) X.env=(false,eval e X.env)::starEach es X.env:=by rfl) (hpl:(backTo cpos (starEach es X.env)).any (·.1)=false:=by rfl):
  PS X (.Raise (some (.Call (.Name x np) (e::es) [] cpos)) none pos) (DH Kx C t):=by
 intro pins s σ H D I h;obtain⟨bm,N,nm,qn,bs,hdct,sn,sub,ab,col,dd,k0,k1,k2,k3,k5,mN,hC,hN,hni,T⟩:=qd I.mod.kin c.ex;refine wpAny_Raise_call_subT (C:=C) (nm:=nm) (q:=qn) (N:=N) (bs:=bs) (bm:=bm) (hdct:=hdct) (sn:=sn) (sub:=sub) (ab:=ab) (col:=col) (dd:=dd) (k0:=k0) (k1:=k1) (k2:=k2) (k3:=k3) (k5:=k5) (mN:=mN) PySem.F.excBase_ValueError (T.hasType PySem.F.excBase_ValueError.hasBase) (I.ok.hd hc) (by rw[he];show (false || (backTo cpos (starEach es X.env)).any (·.1))=false;rw[hpl];rfl) hni
  (cN I hg c.m ⟨rfl,?_⟩ hd)
 have q:=ha cpos pins s σ H _ I h;rw[he] at q ⊢;refine MB (mB q (λus s2 hq=>?_) λο ο y=>y);obtain⟨vs,H1,I1,r,hl,hk⟩:=hq;exact⟨rfl,by rw[<-r.length];exact hl,I1.bk _ _ hC,hN.keeps I1.bk,T.keeps I1.bk,λh' ea mk=>hx pins σ H1 s2 h' ea (.ref C) us I1 mk hk⟩
end L2
namespace L2
open PySem PySem.Spec PyProof.Rows
def bG:Option HO->String
 |some (.lst _)=>"list"
 |some (.frz _ (.lst _))=>"list"
 |some (.tup _)=>"tuple"
 |some (.dK _)=>"dict"
 |some (.dT _)=>"dict"
 |_=>""
def kd (H:Hp):V->String
 |.non=>"NoneType"
 |.bl _=>"bool"
 |.int _=>"int"
 |.str _=>"str"
 |.ref a=>bG (H a)
 |_=>""
def Kn (H:Hp) (x:V):Prop:=kd H x≠""
def EH (n:String) (H:Hp) (x:V):Bool:=kd H x == n || (kd H x == "bool"&&n == "int")
theorem RN {K:PySem.W.Frag} {H:Hp} {x:V} (h:Kn H x):JE K H x (.type (kd H x)):=by
 cases x with
 |non=>exact .non
 |bl b=>exact .bl b
 |int i=>exact .int i
 |str s=>exact .str s
 |ref a=>
  have h:bG (H a)≠"":=h;show JE K H (.ref a) (.type (bG (H a)));cases e:H a with
  |none=>rw[e] at h;exact absurd rfl h
  |some o=>
   rw[e] at h;cases o with
   |lst xs=>exact .lst e
   |tup xs=>exact .tup e
   |dK k=>exact .dK e
   |dT k=>exact .dT e
   |frz ob u=>
    cases u with
    |lst xs=>exact .frz e
    |_=>exact absurd rfl h
   |_=>exact absurd rfl h
 |_=>exact absurd rfl h
theorem R4 (o:Option HO):bG o=""\/bG o="list"\/bG o="tuple"\/bG o="dict":=by
 unfold bG
 split<;>simp
theorem Kn.cases {H:Hp} {x:V} (h:Kn H x):kd H x="NoneType"\/kd H x="bool"\/kd H x="int"\/kd H x="str"\/kd H x="list"\/kd H x="tuple"\/kd H x="dict":=by
 cases x with
 |ref a=>
  have h:bG (H a)≠"":=h;show bG (H a)=_\/bG (H a)=_\/bG (H a)=_\/bG (H a)=_\/bG (H a)=_\/bG (H a)=_\/bG (H a)=_;rcases R4 (H a) with e|e|e|e
  ·exact absurd e h
  ·exact .inr (.inr (.inr (.inr (.inl e))))
  ·exact .inr (.inr (.inr (.inr (.inr (.inl e)))))
  ·exact .inr (.inr (.inr (.inr (.inr (.inr e)))))
 |non=>exact .inl rfl
 |bl b=>exact .inr (.inl rfl)
 |int i=>exact .inr (.inr (.inl rfl))
 |str z=>exact .inr (.inr (.inr (.inl rfl)))
 |_=>exact absurd rfl h
theorem ud (K:PySem.W.Frag):∀k∈["NoneType","bool","int","str","list","tuple","dict"],∀n∈["bool","int","str","list","tuple","dict"],PySem.W.kitOne K (.type k) (.type n)=some (k == n || (k == "bool"&&n == "int")):=by
 have e:∀k∈["NoneType","bool","int","str","list","tuple","dict"],∀n∈["bool","int","str","list","tuple","dict"],(if (Value.type k == Value.type n)=true then some true else if PySem.W.kitMeta n=true then (fastBuiltinMro k).map (·.contains (.type n)) else none)=some (k == n || (k == "bool"&&n == "int")):=∅;exact λk hk n hn=>e k hk n hn
theorem VP {X:Cx}:QD X (.builtin "isinstance") (λxs H Q=>∃x n,xs=[x,.ty n]/\n∈["bool","int","str","list","tuple","dict"]/\Kn H x/\Q (.bl (EH n H x)) H):=by
 intro pins s σ H xs us Q I r h;obtain⟨x,n,rfl,hn,hk,q⟩:=h;cases r with
 |cons r1 rr=>
  cases rr with
  |cons r2 rr=>
   cases rr;cases r2;refine dc I r1 (RN hk) (ud X.K _ ?_ n hn) λtk=>⟨.bl _,H,I.tok tk,rfl,q⟩
   rcases hk.cases with e|e|e|e|e|e|e<;>rw[e]<;>simp
theorem S4 {X:Cx}:P2 X (unaryOp .USub) (rU λi=>.int (-i)):=by
 intro pins s σ H x v Q I rx h;obtain⟨i,rfl,q⟩:=h;obtain⟨t,rfl⟩:=rx;exact neg_int ⟨.int _,H,I.tok _,⟨_,rfl⟩,q⟩
end L2
namespace L2
open PySem PySem.Spec PyProof.Rows
theorem YK {H:Hp} {i:Int}:Kn H (.int i)↔True:=⟨λο=>trivial,λο=>(by decide:"int"≠"")⟩
theorem ZK {CX:CXT} {P:Program} {w:World} {K:PySem.W.Frag} {mg:Str->Option Value} {base:Heap} {N:List Str} {qual:Str} {scope:Scope} {f:Addr} {cd:Value} {A:Around} {outer:List Env} {s:Shared} {H:Hp} {E:XK}:
 (SD CX P w K mg base N qual scope f cd A outer s H E).K=K:=rfl
def mF:V->Bool
 |.int _=>true
 |_=>false
def UD (x:V) (l h:Int):Bool:=match x with
 |.int i=>decide (l<=i)&&decide (i<=h)
 |_=>false
theorem FH {i l h:Int}:UD (.int i) l h=(decide (l<=i)&&decide (i<=h)):=rfl
theorem vd {H:Hp} {x:V} (h:Kn H x):(EH "int" H x&& !EH "bool" H x)=mF x:=by
 cases x with
 |ref a=>
  have h:bG (H a)≠"":=h;have e:kd H (.ref a)=bG (H a):=rfl;unfold EH;rw[e];rcases R4 (H a) with e|e|e|e<;>rw[e]<;>first|rfl|exact absurd e h
 |_=>first|rfl|exact absurd rfl h
end L2
namespace L2
open PySem PySem.Spec PyProof.Rows
inductive T4 (t u:TS):Type where
 |mk:T4 t u
def kR (t u:TS) (_:T4 t u):TS:=λD σ H=>∃M:St->Hp->Prop,t {D with nx:=M} σ H/\∀σ' H',M σ' H'->u D σ' H'
theorem LI {X:Cx} {st:Stmt} {rest:List Stmt} {t u:TS} (h1:PS X st t) (h2:YF X rest u):YF X (st::rest) (kR t u .mk):=by
 intro pins s σ H D I h;obtain⟨M,h,hM⟩:=h;refine wpAny_execs_cons (KC (h1 pins s σ H {D with nx:=M} I h) λf s1 q=>?_);cases f with
 |next=>
  obtain⟨σ',H',I',q⟩:=q;exact h2 pins s1 σ' H' D I' (hM σ' H' q)
 |ret v=>exact q
 |brk=>exact q
 |cont=>exact q
def MI:Option HO->Option (List V)
 |some (.lst xs)=>some xs
 |some (.frz _ (.lst xs))=>some xs
 |_=>none
def lR:Option HO->Option (List V)
 |some (.tup xs)=>some xs
 |some (.frz _ (.tup xs))=>some xs
 |_=>none
theorem wd {xs:List V}:MI (some (.lst xs))=some xs:=rfl
theorem yd {xs:List V}:lR (some (.tup xs))=some xs:=rfl
set_option tactic.hygienic true in
theorem zd {K:PySem.W.Frag} {H:Hp} {a:Addr} {xs:List V} (h:MI (H a)=some xs):QC K H a xs:=by
 unfold MI at h
 split at h
 ·rename_i e;cases h;exact .inl (.inl e)
 ·rename_i e;cases h;exact .inl (.inr ⟨_,e⟩)
 ·cases h
def rIxH:R2:=λx y H Q=>∃p xs i v,x=.ref p/\y=.int i/\MI (H p)=some xs/\oG xs i=some v/\Q v H
theorem aL {X:Cx}:BN X rIxH:=by
 intro value slice pins s σ H x y v u Q I rx ry h hs;obtain⟨p,xs,i,w',e1,e2,e3,e4,q⟩:=h;exact jI value slice pins s σ H x y v u Q I rx ry ⟨p,xs,i,w',e1,e2,zd e3,e4,q⟩ hs
theorem Nd {i j:Int}:uH (.int i) (.int j)=true:=rfl
theorem Pd {i j:Bool}:uH (.bl i) (.bl j)=true:=rfl
theorem Qd {i j:Str}:uH (.str i) (.str j)=true:=rfl
theorem mR:Int.natAbs 10=10:=rfl
theorem LD {H:Hp}:uC H H:=λο ο h=>h
theorem bE {H H':Hp} {p:Addr} {o:HO} (s:uC H H') (h:H' p=none):uC H (jC H' p o):=λb u e=>by
 have q:=s b u e;rw[vC (bD q h)];exact q
end L2
namespace L2
open PySem PySem.Spec PyProof.Rows
end L2
namespace L2
open PySem PySem.Spec PyProof.Rows
inductive jG (g:TG) (tb:TS):Type where
 |mk:jG g tb
def YG (g:TG) (tb:TS) (_:jG g tb) (J:It):TS:=λD σ H=>∃W:Nat->Nat->St->Hp->Prop,(∃m,W 0 m σ H)/\∀i m σ H,W i m σ H->
 (J.stop i H/\D.nx σ H)\/(J.go i H/\∃N:St->Hp->Prop,(∀σ' H',N σ' H'->∃m',m' < m/\W (i+1) m' σ' H')/\∀x H',J.yld i H x H'->g x σ H' λσ2 H2=>tb {D with nx:=N,ct:=N,bk:=D.nx} σ2 H2)
def xJ (wi:TI) (g:TG) (tb:TS) (h:jG g tb):TS:=λD σ H=>wi σ H λJ H1=>YG g tb h J D σ H1
theorem GH {X:Cx} {tg iter:Expr} {body:List Stmt} {wi:TI} {g:TG} {tb:TS} {pos:Pos} (hp:PassesOwn (model X.prog X.w) X.A X.env X.xe) (hc:X.calm=true) (hi:PI X tg iter wi) (hg:PG X tg g) (hb:YF X body tb)
 (hs:∀x,foldedSetIterable iter X.env x=pure x:=by intro _;rfl):PS X (.For tg iter body [] pos) (xJ wi g tb .mk):=CK hp hc hi hg hb hs
theorem nR {lo:Int} {n:Nat} {g:TG} {tb:TS} {h:jG g tb} {D:eE} {σ:St} {H:Hp} (Pv:Nat->St->Hp->Prop) (h0:Pv 0 σ H)
 (hs:∀i σ H,i < n->Pv i σ H->g (.int (lo+i)) σ H λσ2 H2=>tb {D with nx:=Pv (i+1),ct:=Pv (i+1),bk:=D.nx} σ2 H2) (hd:∀σ H,Pv n σ H->D.nx σ H):YG g tb h (AI lo n) D σ H:=zb Pv h0 hs hd
theorem SN {K:PySem.W.Frag} {a:Addr} {xs:List V} {g:TG} {tb:TS} {h:jG g tb} {D:eE} {σ:St} {H:Hp} (Pv:Nat->St->Hp->Prop) (h0:Pv 0 σ H) (hl:∀i σ H,i<=xs.length->Pv i σ H->QC K H a xs)
 (hs:∀i x σ H,xs[i]?=some x->Pv i σ H->g x σ H λσ2 H2=>tb {D with nx:=Pv (i+1),ct:=Pv (i+1),bk:=D.nx} σ2 H2) (hd:∀σ H,Pv xs.length σ H->D.nx σ H):YG g tb h (BK K a) D σ H:=yb Pv h0 hl hs hd
def pw (n:Int):Int:=2 ^ n.toNat
theorem U4 (n:Nat):pw (n:Int)=2 ^ n:=by unfold pw;rw[pB]
theorem WP (n:Nat):pw ((n+1:Nat):Int)=pw (n:Int) * 2:=by rw[U4,U4,Int.pow_succ]
theorem ZP (n:Int):1<=pw n:=by
 unfold pw;generalize n.toNat=k
 induction k with
 |zero=>decide
 |succ k ih=>rw[Int.pow_succ];omega
theorem V4 {n m : Nat} (h : n <= m) : pw (n : Int) <= pw (m : Int) := by
  induction m with
  | zero => have : n = 0 := by omega
            subst this; exact Int.le_refl _
  | succ k ih =>
    rcases (by omega : n <= k \/ n = k + 1) with e | e
    · have := ih e; have := ZP k; rw [WP]; omega
    · subst e; exact Int.le_refl _
theorem pR {n m:Int} (h:n<=m) (hm:0<=m):pw n<=pw m:=by
 have e1:pw n=pw (n.toNat:Int):=by unfold pw;rw[pB]
 have e2:pw m=pw (m.toNat:Int):=by unfold pw;rw[pB]
 rw[e1,e2];exact V4 ⋯
theorem qR {n:Int} (h:n<=24):pw n<=16777216:=pR (m:=24) h (by decide)
theorem Sd {n:Int} (h:n<=4):pw n<=16:=pR (m:=4) h (by decide)
theorem rR {x y:Int} (h1:2<=x) (h2:x<=3) (h3:1<=y) (h4:y<=8):2<=x * y/\x * y<=24:=by
 rcases (by omega:x=2\/x=3) with e|e<;>subst e<;>omega
end L2
namespace L2
open PySem PySem.Spec PyProof.Rows
set_option tactic.hygienic true in
theorem W4 {f:Str} {v:V} {n:Nat}:∀{fs:List (Str×V)},fs.length < n->(nC f v fs).length < n+1
 |[],_=>by show 1 < n+1;rename_i h;simp at h;omega
 |(g,x)::r,h=>by
  unfold nC
  split
  ·exact Nat.lt_succ_of_lt h
  ·cases n with
   |zero=>exact absurd h (Nat.not_lt_zero _)
   |succ m=>exact Nat.succ_lt_succ (W4 (Nat.lt_of_succ_lt_succ h))
end L2
namespace L2
open PySem PySem.Spec PyProof.Rows
end L2
namespace L2
open PySem PySem.Spec PyProof.Rows
end L2
namespace L2
open PySem PySem.Spec PyProof.Rows
end L2
namespace L2
open PySem PySem.Spec PyProof.Rows
end L2
namespace L2
open PySem PySem.Spec PyProof.Rows
section
variable {X:Cx} {pins pins2:List (Addr×Obj)} {σ:St} {H:Hp} {s:Shared} {E':Value->Shared->Prop}
end
end L2
namespace PySem.W
open PySem PySem.Spec PySem.Calls PyProof.Rows
open Builtin Builtin.ObjectAttr Builtin.Getset_descriptor
def yJ (e C:Addr) (h:Heap):Prop:=∃o,h.get? e=some o/\o.cls=.ref C
section
variable {K:Frag} {e C:Addr}
theorem yJ.ty {M:Model} {h:Heap} (p:yJ e C h):Looks M h (typeOf (.ref e)) (.ref C):=by
 obtain⟨o,h1,h2⟩:=p;exact h2 ▸ (Looks.ld h1).andThen .now
variable {prog:Program} {w:World} {A:Around} {E:Value->Shared->Prop} {s:Shared}
end
end PySem.W
namespace L2
open PySem PySem.Spec PyProof.Rows
def TN:V->Value
 |.ref a=>.ref a
 |.ty n=>.type n
 |_=>.none
theorem Td {a:Addr}:TN (.ref a)=.ref a:=rfl
theorem Ud {n:String}:TN (.ty n)=.type n:=rfl
end L2
namespace L2
open PySem PySem.Spec PyProof.Rows
inductive Dv where
 |leaf (v:V)
 |seq (t:Bool) (ds:List Dv)
mutual
noncomputable def yD (K:PySem.W.Frag) (H:Hp):Dv->V->Prop
 |.leaf v,x=>x=v/\dG v=true
 |.seq t ds,x=>∃a xs,x=.ref a/\(if t=true then ZC K H a xs else QC K H a xs)/\NC K H ds xs
noncomputable def NC (K:PySem.W.Frag) (H:Hp):List Dv->List V->Prop
 |[],xs=>xs=[]
 |d::ds,xs=>∃x r,xs=x::r/\yD K H d x/\NC K H ds r
end
mutual
noncomputable def alike:Dv->Dv->Bool
 |.leaf _,.leaf _=>true
 |.seq t ds,.seq u es=>t == u&&SC ds es
 |_,_=>false
noncomputable def SC:List Dv->List Dv->Bool
 |d::ds,e::es=>alike d e&&SC ds es
 |_,_=>true
end
mutual
noncomputable def ZD:Dv->Dv->Bool
 |.leaf v,.leaf w=>FN v w
 |.seq _ ds,.seq _ es=>UC ds es
 |_,_=>false
noncomputable def UC:List Dv->List Dv->Bool
 |[],[]=>true
 |d::ds,e::es=>ZD d e&&UC ds es
 |_,_=>false
end
mutual
noncomputable def BG:Dv->Nat
 |.leaf _=>0
 |.seq _ ds=>jD ds+1
noncomputable def jD:List Dv->Nat
 |[]=>0
 |d::ds=>max (BG d) (jD ds)
end
theorem NC.length {K:PySem.W.Frag} {H:Hp}:∀{ds:List Dv} {xs:List V},NC K H ds xs->ds.length=xs.length
 |[],xs,h=>by unfold NC at h;subst h;rfl
 |d::ds,xs,h=>by
  unfold NC at h;obtain⟨x,r,rfl,_,h⟩:=h;simp[h.length]
theorem NC.get {K:PySem.W.Frag} {H:Hp}:∀{ds:List Dv} {xs:List V} {j:Nat} {d:Dv},NC K H ds xs->ds[j]?=some d->∃x,xs[j]?=some x/\yD K H d x
 |[],xs,j,d,h,e=>by simp at e
 |d'::ds,xs,0,d,h,e=>by
  unfold NC at h;obtain⟨x,r,rfl,hx,h⟩:=h;simp at e;subst e;exact⟨x,rfl,hx⟩
 |d'::ds,xs,j+1,d,h,e=>by
  unfold NC at h;obtain⟨x,r,rfl,hx,h⟩:=h;obtain⟨y,e1,e2⟩:=NC.get (j:=j) h (by simpa using e);exact⟨y,by simpa using e1,e2⟩
theorem Vd (n:Nat) (f:Nat->Bool):(List.range (n+1)).all f=(f 0&&(List.range n).all λj=>f (j+1)):=by
 rw[List.range_succ_eq_map,List.all_cons,List.all_map];rfl
theorem sR:∀(ds es:List Dv),UC ds es=(decide (ds.length=es.length)&&(List.range (min ds.length es.length)).all λj=>ZD (ds.getD j (.leaf .non)) (es.getD j (.leaf .non)))
 |[],[]=>by simp[UC]
 |[],e::es=>by simp[UC]
 |d::ds,[]=>by simp[UC]
 |d::ds,e::es=>by
  have ih:=sR ds es;rw[UC,ih];have hm:min (d::ds).length (e::es).length=min ds.length es.length+1:=by simp[Nat.succ_min_succ]
  rw[hm,Vd];simp only[ZA,Nat.add_right_cancel_iff,List.getD_cons_zero,List.getD_cons_succ];cases ZD d e<;>cases decide (ds.length=es.length)<;>simp
theorem X4 {v:V} (h:dG v=true):FN v v=true:=by
 cases v<;>first|rfl|(simp[FN];done)|exact absurd h (by simp[dG])
mutual
theorem Y4 {X:Cx} {pins:List (Addr×Obj)} {σ:St} {H:Hp} {s:Shared} (I:kC X pins σ H s):∀(d e:Dv) (x:V),alike d e=true->yD X.K H d x->yD X.K H e x->ZD d e=true
 |.leaf a,.leaf b,x,_,hx,hy=>by
  unfold yD at hx hy;obtain⟨rfl,fx⟩:=hx;obtain⟨rfl,fy⟩:=hy;rw[ZD];exact X4 fx
 |.leaf a,.seq t es,_,h,_,_=>by simp[alike] at h
 |.seq t ds,.leaf b,_,h,_,_=>by simp[alike] at h
 |.seq t ds,.seq t' es,x,h,hx,hy=>by
  rw[alike,MA] at h;have ht:=EB.mp h.1;subst ht;unfold yD at hx hy;obtain⟨a,xs,rfl,hsx,hL⟩:=hx;obtain⟨b,ys,e,hsy,hM⟩:=hy;cases e;rw[ZD];have exy:xs=ys:=by
   cases t with
   |true=>exact I.tuple_inj (by simpa using hsx) (by simpa using hsy)
   |false=>exact I.list_inj (by simpa using hsx) (by simpa using hsy)
  subst exy;exact Z4 I ds es xs h.2 hL hM
theorem Z4 {X:Cx} {pins:List (Addr×Obj)} {σ:St} {H:Hp} {s:Shared} (I:kC X pins σ H s):∀(ds es:List Dv) (xs:List V),SC ds es=true->NC X.K H ds xs->NC X.K H es xs->UC ds es=true
 |[],[],_,_,_,_=>by rw[UC]
 |[],e::es,xs,_,hx,hy=>by
  unfold NC at hx hy;obtain⟨x,r,e1,_⟩:=hy;rw[hx] at e1;cases e1
 |d::ds,[],xs,_,hx,hy=>by
  unfold NC at hx hy;obtain⟨x,r,e1,_⟩:=hx;rw[hy] at e1;cases e1
 |d::ds,e::es,xs,h,hx,hy=>by
  rw[SC,MA] at h;unfold NC at hx hy;obtain⟨x,r,rfl,hx,hxr⟩:=hx;obtain⟨y,r',e1,hy,hyr⟩:=hy;cases e1;rw[UC,Y4 I d e x h.1 hx hy,Z4 I ds es r h.2 hxr hyr]
  rfl
end
theorem d5 {X:Cx} {pins:List (Addr×Obj)} {σ:St} {H:Hp} {s:Shared} (I:kC X pins σ H s) {A:Around} {t:Bool} {ds es:List Dv} {a b:Addr} {xs ys:List V} (hu:A.units < cLine)
  (hsx:if t=true then ZC X.K H a xs else QC X.K H a xs) (hsy:if t=true then ZC X.K H b ys else QC X.K H b ys) (l1:ds.length=xs.length) (l2:es.length=ys.length)
  (ih:∀(j:Nat) (u v:Value) (us vs:List Value),sC xs us->sC ys vs->us[j]?=some u->vs[j]?=some v->SeqAt.EqAt A.in1 s u v (ZD (ds.getD j (.leaf .non)) (es.getD j (.leaf .non)))):
  SeqAt.RcAt A s (.ref a) (.ref b) (UC ds es):=by
 rw[sR];cases t with
 |false=>
  obtain⟨its,rv,pl,_⟩:=I.list (show QC X.K H a xs by simpa using hsx);obtain⟨its2,rv2,pl2,_⟩:=I.list (show QC X.K H b ys by simpa using hsy);have n1:=rv.length;have n2:=rv2.length;by_cases hl:ds.length=es.length
  ·have q:=SeqAt.RcAt.lists (e:=λj=>ZD (ds.getD j (.leaf .non)) (es.getD j (.leaf .non))) pl.isList pl2.isList (by simp;omega) (by omega:A.units < cLine) (λj h1 h2=>by
    have h1:j < its.length:=by simpa using h1
    have h2:j < its2.length:=by simpa using h2
    have e:=ih j (its[j]) (its2[j]) its its2 rv rv2 (by simp[h1]) (by simp[h2]);simpa using e)
   rw[nA hl,Bool.true_and];have em:min ds.length es.length=its.toArray.size:=by simp;omega
   rw[em];exact q
  ·have q:=SeqAt.RcAt.lists_lengths (A:=A) pl.isList pl2.isList (by simp;omega) (by omega:A.units < cLine);rw[HA hl,Bool.false_and];exact q
 |true=>
  obtain⟨its,rv,pl,_⟩:=I.tuple (show ZC X.K H a xs by simpa using hsx);obtain⟨its2,rv2,pl2,_⟩:=I.tuple (show ZC X.K H b ys by simpa using hsy);have n1:=rv.length;have n2:=rv2.length;have q:=SeqAt.RcAt.tuples (e:=λj=>ZD (ds.getD j (.leaf .non)) (es.getD j (.leaf .non))) (show s.heap.IsTuple a its.toArray from pl) (show s.heap.IsTuple b its2.toArray from pl2) (by omega:A.units < cLine) (λj h1 h2=>by
    have h1:j < its.length:=by simpa using h1
    have h2:j < its2.length:=by simpa using h2
    have e:=ih j (its[j]) (its2[j]) its its2 rv rv2 (by simp[h1]) (by simp[h2]);simpa using e)
  have em:min its.toArray.size its2.toArray.size=min ds.length es.length:=by simp;omega
  have eb:(its.toArray.size == its2.toArray.size)=decide (ds.length=es.length):=by
   rw[eB];simp;omega
  rw[em,eb,Bool.and_comm] at q;exact q
mutual
theorem Wd {X:Cx} {pins:List (Addr×Obj)} {σ:St} {H:Hp} {s:Shared} (I:kC X pins σ H s):∀(d e:Dv) (A:Around) (x y:V) (u v:Value),A.units+BG d < cLine->alike d e=true->yD X.K H d x->yD X.K H e y->pC x u->pC y v->SeqAt.EqAt A s u v (ZD d e)
 |.leaf a,.leaf b,A,x,y,u,v,_,_,hx,hy,rx,ry=>by
  unfold yD at hx hy;obtain⟨rfl,fx⟩:=hx;obtain⟨rfl,fy⟩:=hy;rw[ZD];exact LK rx ry fx fy
 |.leaf a,.seq t es,A,x,y,u,v,_,h,_,_,_,_=>by simp[alike] at h
 |.seq t ds,.leaf b,A,x,y,u,v,_,h,_,_,_,_=>by simp[alike] at h
 |.seq t ds,.seq t' es,A,x,y,u,v,hu,h,hx,hy,rx,ry=>by
  have h0:=h;rw[alike,MA] at h;have ht:=EB.mp h.1;subst ht;have hx0:=hx;have hy0:=hy;unfold yD at hx hy;obtain⟨a,xs,rfl,hsx,hL⟩:=hx;obtain⟨b,ys,rfl,hsy,hM⟩:=hy;cases rx;cases ry;by_cases hab:a=b
  ·subst hab;rw[Y4 I _ _ _ h0 hx0 hy0];exact SeqAt.EqAt.same _
  ·rw[BG] at hu;have hu1:A.in1.units+jD ds < cLine:=by show A.units+1+jD ds < cLine;omega
   have ih:=aQ I ds es A.in1 xs ys hu1 h.2 hL hM;rw[ZD];exact SeqAt.EqAt.of_refs hab (d5 I ⋯ hsx hsy hL.length hM.length ih)
theorem aQ {X:Cx} {pins:List (Addr×Obj)} {σ:St} {H:Hp} {s:Shared} (I:kC X pins σ H s):∀(ds es:List Dv) (A:Around) (xs ys:List V),A.units+jD ds < cLine->SC ds es=true->NC X.K H ds xs->NC X.K H es ys->
  ∀(j:Nat) (u v:Value) (us vs:List Value),sC xs us->sC ys vs->us[j]?=some u->vs[j]?=some v->SeqAt.EqAt A s u v (ZD (ds.getD j (.leaf .non)) (es.getD j (.leaf .non)))
 |[],es,A,xs,ys,_,_,hx,hy,j,u,v,us,vs,rx,ry,e1,e2=>by
  unfold NC at hx;subst hx;cases rx;simp at e1
 |d::ds,[],A,xs,ys,_,_,hx,hy,j,u,v,us,vs,rx,ry,e1,e2=>by
  unfold NC at hy;subst hy;cases ry;simp at e2
 |d::ds,e::es,A,xs,ys,hu,h,hx,hy,j,u,v,us,vs,rx,ry,e1,e2=>by
  rw[SC,MA] at h;rw[jD] at hu;unfold NC at hx hy;obtain⟨x,r,rfl,hx,hxr⟩:=hx;obtain⟨y,r',rfl,hy,hyr⟩:=hy;cases rx with
  |cons p1 p2=>
   cases ry with
   |cons q1 q2=>
    cases j with
    |zero=>
     simp at e1 e2;subst e1 e2;exact Wd I d e A x y _ _ ⋯ h.1 hx hy p1 q1
    |succ k=>
     have z:=aQ I ds es A r r' ⋯ h.2 hxr hyr k u v _ _ p2 q2 (by simpa using e1) (by simpa using e2);simpa using z
end
theorem i5 {A:Around} {k:Nat} (hr:vD k A):A.units+4+2 < cLine:=by have:=hr.units;omega
def UN (K:PySem.W.Frag) (n:Nat):R2:=λx y H Q=>∃t ds es,yD K H (.seq t ds) x/\yD K H (.seq t es) y/\SC ds es=true/\jD ds<=n/\Q (.bl (UC ds es)) H
def tR (K:PySem.W.Frag) (n:Nat):R2:=λx y H Q=>∃t ds es,yD K H (.seq t ds) x/\yD K H (.seq t es) y/\SC ds es=true/\jD ds<=n/\Q (.bl (!UC ds es)) H
theorem VN {X:Cx} {pins:List (Addr×Obj)} {σ:St} {H:Hp} {s:Shared} (I:kC X pins σ H s) {A:Around} {n:Nat} (hu:A.units+n+2 < cLine) {t:Bool} {ds es:List Dv} {x y:V} {u v:Value} (hx:yD X.K H (.seq t ds) x) (hy:yD X.K H (.seq t es) y) (ha:SC ds es=true) (hd:jD ds<=n)
  (rx:pC x u) (ry:pC y v):SeqAt.RcAt A s u v (UC ds es):=by
 unfold yD at hx hy;obtain⟨a,xs,rfl,hsx,hL⟩:=hx;obtain⟨b,ys,rfl,hsy,hM⟩:=hy;cases rx;cases ry;exact d5 I ⋯ hsx hsy hL.length hM.length (aQ I ds es A.in1 xs ys (by show A.units+1+jD ds < cLine;omega) ha hL hM)
theorem bL {X:Cx} {n:Nat} (hu:X.A.units+n+2 < cLine):HE X (compareOp .Eq) (UN X.K n):=by
 intro pins s σ H x y v u Q I rx ry h;obtain⟨t,ds,es,hx,hy,ha,hd,q⟩:=h;exact VN I hu hx hy ha hd rx ry X.prog X.w X.xe _ ⟨.bl _,H,I,rfl,q⟩
theorem Xd {X:Cx} {pins:List (Addr×Obj)} {σ:St} {H:Hp} {s:Shared} (I:kC X pins σ H s) {A:Around} {t:Bool} {ds es:List Dv} {a b:Addr} {xs ys:List V} (hu:A.units < cLine)
  (hsx:if t=true then ZC X.K H a xs else QC X.K H a xs) (hsy:if t=true then ZC X.K H b ys else QC X.K H b ys) (l1:ds.length=xs.length) (l2:es.length=ys.length)
  (ih:∀(j:Nat) (u v:Value) (us vs:List Value),sC xs us->sC ys vs->us[j]?=some u->vs[j]?=some v->SeqAt.EqAt A.in1 s u v (ZD (ds.getD j (.leaf .non)) (es.getD j (.leaf .non)))):
  SeqAt.RcNeAt A s (.ref a) (.ref b) (!UC ds es):=by
 rw[sR];cases t with
 |false=>
  obtain⟨its,rv,pl,_⟩:=I.list (show QC X.K H a xs by simpa using hsx);obtain⟨its2,rv2,pl2,_⟩:=I.list (show QC X.K H b ys by simpa using hsy);have n1:=rv.length;have n2:=rv2.length;by_cases hl:ds.length=es.length
  ·have q:=SeqAt.RcNeAt.lists (e:=λj=>ZD (ds.getD j (.leaf .non)) (es.getD j (.leaf .non))) pl.isList pl2.isList (by simp;omega) (by omega:A.units < cLine) (λj h1 h2=>by
    have h1:j < its.length:=by simpa using h1
    have h2:j < its2.length:=by simpa using h2
    have e:=ih j (its[j]) (its2[j]) its its2 rv rv2 (by simp[h1]) (by simp[h2]);simpa using e)
   rw[nA hl,Bool.true_and];have em:min ds.length es.length=its.toArray.size:=by simp;omega
   rw[em];exact q
  ·have q:=SeqAt.RcNeAt.lists_lengths (A:=A) pl.isList pl2.isList (by simp;omega) (by omega:A.units < cLine);rw[HA hl,Bool.false_and];exact q
 |true=>
  obtain⟨its,rv,pl,_⟩:=I.tuple (show ZC X.K H a xs by simpa using hsx);obtain⟨its2,rv2,pl2,_⟩:=I.tuple (show ZC X.K H b ys by simpa using hsy);have n1:=rv.length;have n2:=rv2.length;have q:=SeqAt.RcNeAt.tuples (e:=λj=>ZD (ds.getD j (.leaf .non)) (es.getD j (.leaf .non))) (show s.heap.IsTuple a its.toArray from pl) (show s.heap.IsTuple b its2.toArray from pl2) (by omega:A.units < cLine) (λj h1 h2=>by
    have h1:j < its.length:=by simpa using h1
    have h2:j < its2.length:=by simpa using h2
    have e:=ih j (its[j]) (its2[j]) its its2 rv rv2 (by simp[h1]) (by simp[h2]);simpa using e)
  have em:min its.toArray.size its2.toArray.size=min ds.length es.length:=by simp;omega
  have eb:(its.toArray.size == its2.toArray.size)=decide (ds.length=es.length):=by
   rw[eB];simp;omega
  rw[em,eb,Bool.and_comm] at q;exact q
theorem cL {X:Cx} {n:Nat} (hu:X.A.units+n+2 < cLine):HE X (compareOp .NotEq) (tR X.K n):=by
 intro pins s σ H x y v u Q I rx ry h;obtain⟨t,ds,es,hx,hy,ha,hd,q⟩:=h;unfold yD at hx hy;obtain⟨a,xs,rfl,hsx,hL⟩:=hx;obtain⟨b,ys,rfl,hsy,hM⟩:=hy;cases rx;cases ry;exact Xd I ⋯ hsx hsy hL.length hM.length (aQ I ds es X.A.in1 xs ys (by show X.A.units+1+jD ds < cLine;omega) ha hL hM) X.prog X.w X.xe _ ⟨.bl _,H,I,rfl,q⟩
def lD (ns:List Int):List Dv:=ns.map λi=>.leaf (.int i)
theorem j5 {K:PySem.W.Frag} {H:Hp}:∀(ns:List Int),NC K H (lD ns) (ns.map V.int)
 |[]=>by unfold lD NC;rfl
 |n::ns=>by
  show NC K H (.leaf (.int n)::lD ns) (.int n::ns.map V.int);unfold NC;exact⟨_,_,rfl,by unfold yD;exact⟨rfl,rfl⟩,j5 ns⟩
theorem l5 {K:PySem.W.Frag} {H:Hp} {a:Addr} {ns:List Int} (h:ZC K H a (ns.map V.int)):yD K H (.seq true (lD ns)) (.ref a):=by
 unfold yD;exact⟨a,_,rfl,by simpa using h,j5 ns⟩
theorem o5:∀(ns ms:List Int),SC (lD ns) (lD ms)=true
 |[],_=>by unfold lD;simp[SC]
 |_::_,[]=>by unfold lD;simp[SC]
 |n::ns,m::ms=>by
  show SC (.leaf (.int n)::lD ns) (.leaf (.int m)::lD ms)=true;rw[SC,alike,o5 ns ms];rfl
theorem p5:∀(ns:List Int),jD (lD ns)=0
 |[]=>by unfold lD;simp[jD]
 |n::ns=>by
  show jD (.leaf (.int n)::lD ns)=0;rw[jD,BG,p5 ns];rfl
theorem u5:∀(ns ms:List Int),UC (lD ns) (lD ms)=decide (ns=ms)
 |[],[]=>by unfold lD;simp[UC]
 |[],_::_=>by unfold lD;simp[UC]
 |_::_,[]=>by unfold lD;simp[UC]
 |n::ns,m::ms=>by
  show UC (.leaf (.int n)::lD ns) (.leaf (.int m)::lD ms)=_;rw[UC,ZD,u5 ns ms];show ((n == m)&&decide (ns=ms))=_;rw[eB];simp
end L2
namespace L2
open PySem PySem.Spec PyProof.Rows
def ME (sc:Scope) (env:Env) (x:Str) (fs:List Str):Bool:=
 sc.kind == .function&&sc.names.all (λy=>y.2 != .cell&&(y.2 != .local || sc.names.lookup y.1 == some .local)&&(y.2 != .free || env.kindOf y.1 == some .cell || env.kindOf y.1 == some .free))&&
  sc.names.lookup x == some .local&&fs.all (λf=>sc.names.lookup f == some .free)
structure gE (sc:Scope) (env:Env) (x:Str) (fs:List Str):Prop where
 kind:sc.kind=.function
 nocell:∀y∈sc.names,y.2≠.cell
 own:∀y∈sc.names,y.2=.local->sc.names.lookup y.1=some .local
 fr:∀y∈sc.names,y.2=.free->env.kindOf y.1=some .cell\/env.kindOf y.1=some .free
 x:sc.names.lookup x=some .local
 fs:∀f∈fs,sc.names.lookup f=some .free
theorem gE.of {sc:Scope} {env:Env} {x:Str} {fs:List Str} (h:ME sc env x fs=true):gE sc env x fs:=by
 unfold ME at h;simp only[MA,EB,List.all_eq_true,Bool.or_eq_true,bne_iff_ne,ne_eq] at h;obtain⟨⟨⟨h1,h2⟩,h3⟩,h4⟩:=h;refine⟨h1,λy hy=>(h2 y hy).1.1,λy hy e=>?_,λy hy e=>?_,h3,h4⟩
 ·rcases (h2 y hy).1.2 with z|z
  ·exact absurd e z
  ·exact z
 ·rcases (h2 y hy).2 with (z|z)|z
  ·exact absurd e z
  ·exact .inl z
  ·exact .inr z
theorem uR {env:Env}:∀(names:List (Str×NameKind)) (acc:List (Str×Addr)),(∀n,(n,NameKind.free)∈names->∃c,env.cells.lookup n=some c)->
  ∃cl,(forIn names acc λy r=>(do if (y.2 == NameKind.free)=true then do let c<-cellOf env y.1;pure (ForInStep.yield ((y.1,c)::r)) else pure (ForInStep.yield r):Sem (ForInStep (List (Str×Addr)))))=pure cl/\
   (∀n c,cl.lookup n=some c->acc.lookup n=some c\/env.cells.lookup n=some c)/\∀n,(∃c,acc.lookup n=some c)\/(n,NameKind.free)∈names->∃c,cl.lookup n=some c
 |[],acc,_=>⟨acc,rfl,λο ο e=>.inl e,λn h=>h.elim id λz=>nomatch z⟩
 |(n,k)::r,acc,h=>by
  have hr:∀m,(m,NameKind.free)∈r->∃c,env.cells.lookup m=some c:=λm hm=>h m (xA _ hm);by_cases hk:k=.free
  ·subst hk;obtain⟨c,hc⟩:=h n qA;obtain⟨cl,e,h1,h2⟩:=uR r ((n,c)::acc) hr;refine⟨cl,?_,λm c' hm=>?_,λm hm=>h2 m ?_⟩
   ·rw[List.forIn_cons];simp only[beq_self_eq_true,if_true,cellOf,hc,pure_bind];exact e
   ·rcases h1 m c' hm with z|z
    ·rw[WB] at z;cases q:m == n with
     |true=>
      rw[q] at z;cases z;rw[EB.mp q];exact .inr hc
     |false=>rw[q] at z;exact .inl z
    ·exact .inr z
   ·rw[WB];rcases hm with ⟨c',z⟩|hm
    ·cases q:m == n with
     |true=>exact .inl ⟨c,rfl⟩
     |false=>exact .inl ⟨c',z⟩
    ·rcases vA.mp hm with z|z
     ·cases z;rw[beq_self_eq_true];exact .inl ⟨c,rfl⟩
     ·exact .inr z
  ·obtain⟨cl,e,h1,h2⟩:=uR r acc hr;refine⟨cl,?_,h1,λm hm=>h2 m ?_⟩
   ·rw[List.forIn_cons];have hb:(k == NameKind.free)=false:=by simpa using hk
    simp only[hb,XB,bC,pure_bind];exact e
   ·rcases hm with z|hm
    ·exact .inl z
    ·rcases vA.mp hm with z|z
     ·cases z;exact absurd rfl hk
     ·exact .inr z
theorem Yd {env:Env} {sc:Scope} (h:∀n,(n,NameKind.free)∈sc.names->∃c,env.cells.lookup n=some c):
  ∃cl,closureFor sc env=pure cl/\(∀n c,cl.lookup n=some c->env.cells.lookup n=some c)/\∀n,(n,NameKind.free)∈sc.names->∃c,cl.lookup n=some c:=by
 obtain⟨cl,e,h1,h2⟩:=uR sc.names [] h;refine⟨cl,?_,λn c z=>(h1 n c z).elim (λq=>nomatch q) id,λn hn=>h2 n (.inr hn)⟩;unfold closureFor;simp only[bind_pure];exact e
theorem WN {env:Env}:∀{names:List (Str×NameKind)} {x:Str} {k:NameKind},(names.map λ(n,k)=>if (k == NameKind.free&&env.scope.kind == .function&&env.kindOf n == some .cell) then (n,NameKind.cell) else (n,k)).lookup x=some k->
  k=.cell\/k=.free->names.lookup x=some .free\/names.lookup x=some .cell
 |[],_,_,h,_=>by simp at h
 |(n,k0)::r,x,k,h,hk=>by
  have ih:=@WN env r x k;have h:List.lookup x ((if (k0 == NameKind.free&&env.scope.kind == .function&&env.kindOf n == some .cell)=true then (n,NameKind.cell) else (n,k0))::(r.map λ(n,k)=>if (k == NameKind.free&&env.scope.kind == .function&&env.kindOf n == some .cell) then (n,NameKind.cell) else (n,k)))=some k:=h;by_cases hc:(k0 == NameKind.free&&env.scope.kind == .function&&env.kindOf n == some .cell)=true
  ·rw[iA hc] at h;simp only[WB] at h ⊢;cases hx:x == n with
   |true=>
    simp only[MA,EB] at hc;rw[hc.1.1];exact .inl rfl
   |false=>rw[hx] at h;exact ih h hk
  ·rw[fA hc] at h;simp only[WB] at h ⊢;cases hx:x == n with
   |true=>
    rw[hx] at h;cases h;rcases hk with rfl|rfl
    ·exact .inr rfl
    ·exact .inl rfl
   |false=>rw[hx] at h;exact ih h hk
theorem vR {env:Env}:∀{names:List (Str×NameKind)} {x:Str},names.lookup x=some .free->
  (names.map λ(n,k)=>if (k == NameKind.free&&env.scope.kind == .function&&env.kindOf n == some .cell) then (n,NameKind.cell) else (n,k)).lookup x=some .cell\/(names.map λ(n,k)=>if (k == NameKind.free&&env.scope.kind == .function&&env.kindOf n == some .cell) then (n,NameKind.cell) else (n,k)).lookup x=some .free
 |[],_,h=>by simp at h
 |(n,k0)::r,x,h=>by
  have ih:=@vR env r x;show List.lookup x ((if (k0 == NameKind.free&&env.scope.kind == .function&&env.kindOf n == some .cell)=true then (n,NameKind.cell) else (n,k0))::_)=_\/List.lookup x ((if (k0 == NameKind.free&&env.scope.kind == .function&&env.kindOf n == some .cell)=true then (n,NameKind.cell) else (n,k0))::_)=_;simp only[WB] at h;by_cases hc:(k0 == NameKind.free&&env.scope.kind == .function&&env.kindOf n == some .cell)=true
  ·rw[iA hc];simp only[WB];cases hx:x == n with
   |true=>exact .inl rfl
   |false=>rw[hx] at h;exact ih h
  ·rw[fA hc];simp only[WB];cases hx:x == n with
   |true=>rw[hx] at h;exact .inr h
   |false=>rw[hx] at h;exact ih h
def DC (X:Cx) (scope:Scope) (cl:List (Str×Addr)) (C:Addr) (N:List Str) (s₀:Shared) (H₀:Hp) (fp:List Addr) (xe:Value->Shared->Prop):Cx:=
 {X with N:=N,s₀:=s₀,H₀:=H₀,env:=compEnvC scope cl C X.env,outer:=X.stack,stack:=X.stack,ex:=fp,fn:=λο=>false,pn:=[],xe:=xe}
theorem dL {X:Cx}:XW X (λο ο ο=>False):=λο ο ο ο ο ο ο ο ο ο ο ο ο ο ο h=>h.elim
inductive CG (g:TG) (tt:TT) (te:TE):Type where
 |mk:CG g tt te
def PF (X:Cx) (ifs:List Expr) (tt:TT):Prop:=
 ∀(pins:List (Addr×Obj)) (s:Shared) (σ:St) (H:Hp) (Q:Bool->Hp->Prop),kC X pins σ H s->tt σ H Q->
  wpAny (model X.prog X.w) X.A (forIn ifs true λc r=>if r=true then do let ok<-isTrue c X.env (eval c X.env);pure (ForInStep.yield ok) else pure (ForInStep.yield r)) (TP X pins σ Q) X.xe s
def tYes:TT:=λο H Q=>Q true H
theorem wR {X:Cx}:PF X [] tYes:=λο ο ο H ο I h=>by
 simp only[List.forIn_nil];exact EA ⟨H,I,h⟩
theorem bQ {X:Cx} {c:Expr} {tt:TT} (h:PT X c tt):PF X [c] tt:=λpins s σ H Q I hw=>wpAny_tests_one (h pins s σ H Q I hw)
def DG (g:TG) (tt:TT) (te:TE) (_:CG g tt te) (J:It) (σ0:St) (D:Addr) (Q:Hp->Prop) (H:Hp):Prop:=
 ∃W:Nat->Nat->List V->St->Hp->Prop,(∃m,W 0 m [] σ0 (jC H D (.lst [])))/\∀i m ys σ H,W i m ys σ H->
  (J.stop i H/\Q H)\/(J.go i H/\∃N:List V->St->Hp->Prop,(∀ys σ H,N ys σ H->∃m',m' < m/\W (i+1) m' ys σ H)/\
   ∀y H',J.yld i H y H'->g y σ H' λσ2 H2=>tt σ2 H2 λb H2'=>if b=true then te σ2 H2' λv H3=>H3 D=some (.lst ys)/\ys.length < sizeLine/\N (ys++[v]) σ2 (jC H3 D (.lst (ys++[v]))) else N ys σ2 H2')
def HH (wi:TI) (ix:List Nat) (g:TG) (tt:TT) (te:TE) (h:CG g tt te):TE:=λσ H Q=>wi σ H λJ H1=>∀D,H1 D=none->DG g tt te h J (none::ix.map λi=>(σ[i]?).join) D (λH'=>Q (.ref D) H') H1
theorem Zd {lo:Int} {n:Nat} {g:TG} {tt:TT} {te:TE} {h:CG g tt te} {σ0:St} {D:Addr} {Q:Hp->Prop} {H:Hp} (Pv:Nat->List V->St->Hp->Prop) (h0:Pv 0 [] σ0 (jC H D (.lst [])))
  (hs:∀i ys σ H,i < n->Pv i ys σ H->g (.int (lo+i)) σ H λσ2 H2=>tt σ2 H2 λb H2'=>if b=true then te σ2 H2' λv H3=>H3 D=some (.lst ys)/\ys.length < sizeLine/\Pv (i+1) (ys++[v]) σ2 (jC H3 D (.lst (ys++[v]))) else Pv (i+1) ys σ2 H2') (hd:∀ys σ H,Pv n ys σ H->Q H):
  DG g tt te h (AI lo n) σ0 D Q H:=by
 refine⟨λi m ys σ H=>i+m=n/\Pv i ys σ H,⟨n,Nat.zero_add n,h0⟩,λi m ys σ H ⟨e,p⟩=>?_⟩;by_cases hi:i < n
 ·refine .inr ⟨hi,Pv (i+1),λys σ H q=>⟨m - 1,⋯,⋯,q⟩,?_⟩;rintro y H' ⟨rfl,rfl⟩;exact hs i ys σ H' hi p
 ·have e':i=n:=⋯;subst e';exact .inl ⟨kA _,hd ys σ H p⟩
theorem cQ {K:PySem.W.Frag} {a:Addr} {xs:List V} {g:TG} {tt:TT} {te:TE} {h:CG g tt te} {σ0:St} {D:Addr} {Q:Hp->Prop} {H:Hp} (Pv:Nat->List V->St->Hp->Prop) (h0:Pv 0 [] σ0 (jC H D (.lst []))) (hl:∀i ys σ H,i<=xs.length->Pv i ys σ H->QC K H a xs)
  (hs:∀i x ys σ H,xs[i]?=some x->Pv i ys σ H->g x σ H λσ2 H2=>tt σ2 H2 λb H2'=>if b=true then te σ2 H2' λv H3=>H3 D=some (.lst ys)/\ys.length < sizeLine/\Pv (i+1) (ys++[v]) σ2 (jC H3 D (.lst (ys++[v]))) else Pv (i+1) ys σ2 H2') (hd:∀ys σ H,Pv xs.length ys σ H->Q H):
  DG g tt te h (BK K a) σ0 D Q H:=by
 refine⟨λi m ys σ H=>i+m=xs.length/\Pv i ys σ H,⟨xs.length,Nat.zero_add _,h0⟩,λi m ys σ H ⟨e,p⟩=>?_⟩;have hq:=hl i ys σ H ⋯ p;by_cases hi:i < xs.length
 ·have ex:xs[i]?=some xs[i]:=GA hi;refine .inr ⟨⟨xs,_,hq,ex⟩,Pv (i+1),λys σ H q=>⟨m - 1,⋯,⋯,q⟩,?_⟩;rintro y H' ⟨rfl,hy⟩;exact hs i y ys σ H' (hy xs hq) p
 ·have e':i=xs.length:=⋯;subst e';exact .inl ⟨⟨xs,hq,kA _⟩,hd ys σ H p⟩
theorem x5 {prog:Program} {w:World} {A:Around} {R:Result->Shared->Prop} {s:Shared} {elt target iter:Expr} {ifs:List Expr} {scope:Scope} {pos:Pos} {it acc:Value} {env:Env} (I:Nat->Shared->Prop)
  (turn:∀n s,I n s->wpAny (model prog w) A (pyNext it) (λr s₁=>match r with
   |none=>R (.ok .next) s₁
   |some v=>wpAny (model prog w) A (letOwnedTupleGo target it v) (λο s₁'=>wpAny (model prog w) A (assign target env v) (λο s₂=>
    wpAny (model prog w) A (forIn ifs true λc r=>if r=true then do let ok<-isTrue c env (eval c env);pure (ForInStep.yield ok) else pure (ForInStep.yield r)) (λok s₃=>
     if ok=true then wpAny (model prog w) A (eval elt env) (λx s₄=>
      wpAny (model prog w) A (call (.builtin "list.append") [acc,x]) (λο s₅=>∃m,m < n/\I m s₅) (notedBy (model prog w) A env λe s'=>R (.error e) s') s₄) (notedBy (model prog w) A env λe s'=>R (.error e) s') s₃
     else ∃m,m < n/\I m s₃) (notedBy (model prog w) A env λe s'=>R (.error e) s') s₂) (notedBy (model prog w) A env λe s'=>R (.error e) s') s₁') (notedBy (model prog w) A env λe s'=>R (.error e) s') s₁) (notedBy (model prog w) A env λe s'=>R (.error e) s') s)
  (n:Nat) (h:I n s):codeAny (model prog w) A (.compLoop (.ListComp elt [⟨target,iter,ifs,0⟩] scope pos) 0 it acc env) R s:=by
 refine codeAny_loop rfl I (λn s hI=>?_) n h;show wpAny _ _ ((compTurn (.ListComp elt [⟨target,iter,ifs,0⟩] scope pos) 0 it acc env).onRaise (λx=>do noteFrame x env;theTreesLotGoes x)) _ _ s;refine wpAny_noted ?_;rw[compTurn_list];refine jA (wpAny_standAt (jA (mB (turn n s hI) (λr s₁ h₁=>?_) λο ο h'=>h')));cases r with
 |none=>exact EA h₁
 |some v=>
  refine jA (mB h₁ (λο s₁' h₁'=>?_) λο ο h'=>h');refine jA (mB h₁' (λο s₂ h₂=>jA (mB h₂ (λok s₃ h₃=>?_) λο ο h'=>h')) λο ο h'=>h');cases ok with
  |false=>exact EA ⟨rfl,h₃⟩
  |true=>
   exact jA (jA (mB h₃ (λx s₄ h₄=>jA (mB h₄ (λο s₅ h₅=>EA (EA ⟨rfl,h₅⟩)) λο ο h'=>h')) λο ο h'=>h'))
structure zJ (ck:Cx->Prop) (P:Program) (w:World) (K:PySem.W.Frag) (tg:Expr) (J:It) (fp:List Addr) (it:Addr) (tn:Nat->Heap->Prop):Prop where
 obj:∀i h,tn i h->∀b∈fp,∃o,h.get? b=some o/\∀v,o.data≠.cell v
 keep:∀i h h',tn i h->(∀b∈fp,∀o,h.get? b=some o->h'.get? b=some o)->tn i h'
 item:∀(X:Cx),X.prog=P->X.w=w->X.K=K->ck X->∀(i:Nat) (pins:List (Addr×Obj)) (s:Shared) (σ:St) (H:Hp) (E:Value->Shared->Prop),kC X pins σ H s->(∀b∈fp,XD X pins H b)->tn i s.heap->J.go i H->
  wpAny (model P w) X.A (pyNext (.ref it)) (λr s1=>∃u,r=some u/\wpAny (model P w) X.A (letOwnedTupleGo tg (.ref it) u) (λο s2=>∃x H',kC X pins σ H' s2/\pC x u/\J.yld i H x H'/\tn (i+1) s2.heap/\∀b∈fp,H' b=none) E s1) E s
 done:∀(X:Cx),X.prog=P->X.w=w->X.K=K->ck X->∀(i:Nat) (pins:List (Addr×Obj)) (s:Shared) (σ:St) (H:Hp) (E:Value->Shared->Prop),kC X pins σ H s->(∀b∈fp,XD X pins H b)->tn i s.heap->J.stop i H->
  wpAny (model P w) X.A (pyNext (.ref it)) (λr s1=>r=none/\kC X pins σ H s1) E s
 self:∀(A:Around) (i:Nat) (s:Shared) (Q:Value->Shared->Prop) (E:Value->Shared->Prop),tn i s.heap->Q (.ref it) s->wpAny (model P w) A (pyIter (.ref it)) Q E s
theorem KF.g {P:Program} {w:World} {K:PySem.W.Frag} {tg:Expr} {J:It} {fp:List Addr} {it:Addr} {tn:Nat->Heap->Prop} (T:KF P w K tg J fp it tn):zJ (λX=>X.calm=true) P w K tg J fp it tn:=⟨T.obj,T.keep,T.item,T.done,T.self⟩
section
variable {X:Cx}
theorem M5 {ck:Cx->Prop} {pins:List (Addr×Obj)} {σ:St} {H2:Hp} {s2:Shared} {it:Addr} {fp:List Addr} {tn:Nat->Heap->Prop} {J:It} {tg iter elt:Expr} {ifs:List Expr} {scope:Scope} {cl:List (Str×Addr)} {pos:Pos} {x:Str} {fs:List Str} {ix:List Nat} {g:TG} {tt:TT} {te:TE}
  {Qf:Addr->Hp->Prop} {E:Value->Shared->Prop} {RR:Value->Addr->Result->Shared->Prop}
  (I2:kC X pins σ H2 s2) (T:zJ ck X.prog X.w X.K tg J fp it tn) (st2:tn 0 s2.heap) (f2:∀b∈fp,XD X pins H2 b) (hc:∀C s₀ H₀ xe,ck (DC X scope cl C (x::fs) s₀ H₀ fp xe)) (S:gE scope X.env x fs)
  (c1:∀n c,cl.lookup n=some c->X.env.cells.lookup n=some c) (c2:∀n,(n,NameKind.free)∈scope.names->∃c,cl.lookup n=some c) (hix:ix.map (X.N[·]?)=fs.map some)
  (hg:∀C s₀ H₀ xe,PG (DC X scope cl C (x::fs) s₀ H₀ fp xe) tg g) (hf:∀C s₀ H₀ xe,PF (DC X scope cl C (x::fs) s₀ H₀ fp xe) ifs tt) (he:∀C s₀ H₀ xe,PE (DC X scope cl C (x::fs) s₀ H₀ fp xe) elt te)
  (h:∀D,H2 D=none->DG g tt te .mk J (none::ix.map λi=>(σ[i]?).join) D (Qf D) H2)
  (fin:∀D C H' s',kC X pins σ H' s'->Qf D H'->(∃m,s'.heap.Ns C m)->XD X pins H' C->RR (.ref D) C (.ok .next) s'):
  wpAny (model X.prog X.w) X.A (newList []) (λacc s₃=>wpAny (model X.prog X.w) X.A (newFunctionEnv scope X.env.globals cl [] X.env.qual none .none (some X.env)) (λcenv s₄=>
   codeAny (model X.prog X.w) X.A (.compStart (.ListComp elt [⟨tg,iter,ifs,0⟩] scope pos) 0 (.ref it) acc {cenv with scope:=relabel scope X.env}) (RR acc cenv.locals) s₄) E s₃) E s2:=by
 have hD:H2 s2.heap.objs.size=none:=I2.hok.fresh (kA _);obtain⟨W,⟨m0,w0⟩,turn⟩:=h _ hD;refine wpAny_newObj_type (wpAny_newFunctionEnv S.nocell (by intro y hy;simp at hy) (λh₁ hns₁ hsb₁=>?_) S.kind);have I3:kC X pins σ (jC H2 s2.heap.objs.size (.lst [])) {s2 with heap:=s2.heap.push {cls:=.type "list",dict:=none,data:=.seq ([]:List Value).toArray}}:=
  I2.laid (t':=s2.toks) (λb u e=>uA _ e) (kA _) ⟨by decide,[],0,.nil,FA _ rfl⟩
 obtain⟨e3,he3⟩:∃s3:Shared,s3={s2 with heap:=s2.heap.push {cls:=.type "list",dict:=none,data:=.seq ([]:List Value).toArray}}:=⟨_,rfl⟩
 rw[<-he3] at I3;have hh3:s2.heap.push {cls:=.type "list",dict:=none,data:=.seq ([]:List Value).toArray}=e3.heap:=by rw[he3]
 have sz3:e3.heap.objs.size=s2.heap.objs.size+1:=by rw[<-hh3,Heap.size_push]
 dsimp only at hns₁ hsb₁ ⊢;rw[hh3] at hns₁ hsb₁ ⊢;generalize hH3:jC H2 s2.heap.objs.size (.lst [])=H3 at *;have live:∀b∈fp,b < s2.heap.objs.size:=λb hb=>let ⟨_,e,_⟩:=T.obj _ _ st2 b hb;BA e
 have f3:∀b∈fp,XD X pins H3 b:=λb hb=>by
  refine⟨?_,(f2 b hb).2⟩;rw[<-hH3,vC (LA (live b hb))];exact (f2 b hb).1
 have C0:XD X pins H3 e3.heap.objs.size:=I3.fpOk (kA _) (I3.hok.fresh (kA _));have old3:∀b o,e3.heap.get? b=some o->h₁.get? b=some o:=λb o e=>hsb₁.extBut b o (LA (BA e)) (uA _ e);have nofs:∀b∈fp,b∉PD X.stack:=λb hb z=>(vA.mp (I3.stkSub b z)).elim (f3 b hb).2.1 (f3 b hb).2.2.1;have hst1:tn 0 h₁:=T.keep _ _ _ st2 λb ο o e=>old3 b o (by rw[<-hh3];exact uA _ e);have e0:=I3.env0;have ok:∀xe,(DC X scope cl e3.heap.objs.size (x::fs) e3 H3 fp xe).Ok:=λxe=>by
  refine⟨I3.ok.mod,S.kind,I3.ok.glob,I3.ok.blt,kA _,λy z c h1 h2=>I3.ok.inj y z c (c1 _ _ h1) (c1 _ _ h2),λy hy=>?_,λy c z=>?_,I3.ok.hd,I3.ok.frames,.inl rfl,λb hb=>⟨?_,λy c e=>(f3 b hb).2.2.2.2.1 y c (c1 _ _ e)⟩,e0.bs,e0.bsz,λb o e hb=>?_,nofs,e0.funs,e0.frf⟩
  ·have q:scope.names.lookup y=some .free\/scope.names.lookup y=some .cell:=by
    rcases hy with hy|hy
    ·exact WN hy (.inl rfl)
    ·exact WN hy (.inr rfl)
   rcases q with q|q
   ·exact c2 y (PySem.mem_of_lookup q)
   ·exact absurd rfl (S.nocell _ (PySem.mem_of_lookup q))
  ·cases z
  ·exact LA (KA (live b hb) (by rw[sz3];exact Nat.le_succ _))
  ·rcases (f3 b hb).2.2.2.1 with z|z
   ·exact I3.ok.noex b o e z
   ·exact absurd (KA (BA e) (dB I3.ok.bsz z)) (VB _)
 have cellUp:∀c v,e3.heap.IsCell c v->h₁.IsCell c v:=λc v ⟨o,ho,hd⟩=>⟨o,old3 _ _ ho,hd⟩
 have J0:∀xe,kC (DC X scope cl e3.heap.objs.size (x::fs) e3 H3 fp xe) [] (none::ix.map λi=>(σ[i]?).join) H3 {e3 with heap:=h₁,toks:=e3.toks+([]:List (Str×Value)).length}:=λxe=>by
  have hk:∀b o,e3.heap.get? b=some o->h₁.get? b=some o:=old3;refine⟨ok xe,rfl,I3.bare,Un.kept hk,⟨_,hns₁,λi y v h1 h2 h3=>?_⟩,λy c e=>?_,I3.hok.fresh (kA _),λy c e=>I3.freeC y c (c1 _ _ e),λp hp=>absurd (show p∈([]:List (Addr×Obj)) from hp) (by simp),I3.hok.kept hk,?_⟩
  ·cases i with
   |zero=>cases h2
   |succ i=>
    have h1:fs[i]?=some y:=h1;have h2:(ix.map λi=>(σ[i]?).join)[i]?=some (some v):=h2;have hy:=S.fs y (JA h1);rw[QA] at h2;cases ej:ix[i]? with
    |none=>rw[ej] at h2;cases h2
    |some j=>
     rw[ej] at h2;have h2:(σ[j]?).join=some v:=rA h2;have hσ:σ[j]?=some (some v):=by
      cases q:σ[j]? with
      |none=>rw[q] at h2;cases h2
      |some o=>rw[q] at h2;cases o with
       |none=>cases h2
       |some o=>cases h2;rfl
     have hN:X.N[j]?=some y:=by
      have z:=congrArg (·[i]?) hix;simp only[QA,ej,h1,Option.map_some] at z;exact rA z
     have kf:=S.fr _ (PySem.mem_of_lookup hy) rfl;obtain⟨m,hn,hl⟩:=I3.loc;obtain⟨u,r,l⟩:=hl j y v hN hσ (by rcases kf with k|k;exact .inr (.inl k);exact .inr (.inr k));refine⟨u,r,.inr ⟨vR hy,?_⟩⟩;rcases l with ⟨l,_⟩|⟨_,c,e,z⟩
     ·rcases kf with k|k<;>(rw[l] at k;cases k)
     ·obtain⟨c',e'⟩:=c2 y (PySem.mem_of_lookup hy);have q:=c1 _ _ e';rw[e] at q;cases q;exact⟨c,e',cellUp _ _ z⟩
  ·obtain⟨v,z⟩:=I3.cell y c (c1 _ _ e);exact⟨v,cellUp _ _ z⟩
  ·have z:=congrArg List.length hix;simp only[cA] at z;show (none::_:St).length=(x::fs).length;simp only[ZA,cA,z]
 have back:∀{xe σ' H' s'},kC (DC X scope cl e3.heap.objs.size (x::fs) e3 H3 fp xe) [] σ' H' s'->kC X pins σ H' s':=λ{xe σ' H' s'} J=>
  I3.call' (s':=s') (ch:=fp) J.os J.base J.hok J.bare λb hb=>⟨(f3 b hb).2.2.2.1,(f3 b hb).2.1,(f3 b hb).2.2.2.2.1,(f3 b hb).2.2.2.2.2⟩
 have stat:∀{xe} {H':Hp},(∀b∈fp,H' b=none)->∀b∈fp,XD (DC X scope cl e3.heap.objs.size (x::fs) e3 H3 fp xe) [] H' b:=λ{xe H'} hn b hb=>
  ⟨hn b hb,LA (KA (live b hb) (by rw[sz3];exact Nat.le_succ _)),nofs b hb,.inl hb,λy c e=>(f3 b hb).2.2.2.2.1 y c (c1 _ _ e),λp hp=>absurd (show p∈([]:List (Addr×Obj)) from hp) (by simp)⟩
 have loop:∀s4:Shared,s4={e3 with heap:=h₁,toks:=e3.toks+([]:List (Str×Value)).length}->
   codeAny (model X.prog X.w) X.A (.compLoop (.ListComp elt [⟨tg,iter,ifs,0⟩] scope pos) 0 (.ref it) (.ref s2.heap.objs.size) (compEnvC scope cl e3.heap.objs.size X.env)) (RR (.ref s2.heap.objs.size) e3.heap.objs.size) s4:=by
  rintro s4 rfl
  let xe:=notedBy (model X.prog X.w) X.A (compEnvC scope cl e3.heap.objs.size X.env) λe s'=>RR (.ref s2.heap.objs.size) e3.heap.objs.size (.error e) s'
  refine x5 (λn s'=>∃i ys σ' H',kC (DC X scope cl e3.heap.objs.size (x::fs) e3 H3 fp xe) [] σ' H' s'/\tn i s'.heap/\(∀b∈fp,H' b=none)/\W i n ys σ' H') ?_ m0 ⟨0,[],_,_,J0 xe,hst1,λb hb=>(f3 b hb).1,w0⟩;rintro n s5 ⟨i,ys,σ5,H5,J5,st5,fr5,w5⟩;rcases turn i n ys σ5 H5 w5 with ⟨stop,qn⟩|⟨go,N,hN,step⟩
  ·refine KC (T.done (DC X scope cl e3.heap.objs.size (x::fs) e3 H3 fp xe) rfl rfl rfl (hc _ _ _ _) i [] s5 σ5 H5 xe J5 (stat fr5) st5 stop) λr s6 zz=>?_;obtain⟨hr,J6⟩:=zz;subst hr;obtain⟨m,hn,_⟩:=J6.loc;exact fin _ _ H5 s6 (back J6) qn ⟨m,hn⟩ ⟨J6.free,C0.2⟩
  ·refine KC (T.item (DC X scope cl e3.heap.objs.size (x::fs) e3 H3 fp xe) rfl rfl rfl (hc _ _ _ _) i [] s5 σ5 H5 xe J5 (stat fr5) st5 go) λr s6 zz=>?_;obtain⟨u,hr,h6⟩:=zz;subst hr;refine KC h6 λ_ s7 zz=>?_;obtain⟨y,H7,J7,r7,y7,st7,fr7⟩:=zz;have J7':=J7.pinned (stat fr7) (T.obj _ _ st7);refine KC (hg _ _ _ xe _ s7 σ5 H7 y u _ J7' r7 (step y H7 y7)) λ_ s8 zz=>?_;obtain⟨σ8,H8,J8,q8⟩:=zz;refine KC (hf _ _ _ xe _ s8 σ8 H8 _ J8 q8) λok s8' zz=>?_;obtain⟨H8',J8',q8'⟩:=zz;cases ok with
   |false=>
    obtain⟨m',hm',w9⟩:=hN _ _ _ (by simpa using q8');refine⟨m',hm',i+1,ys,σ8,_,J8'.unpinned,T.keep _ _ _ st7 λb hb o e=>(J8'.pin (b,o) (eA _ (eA _ (dI hb e)))).1,λb hb=>?_,w9⟩;obtain⟨o,e,d⟩:=T.obj _ _ st7 b hb;exact (J8'.pin (b,o) (eA _ (eA _ (dI hb e)))).2.1
   |true=>
   rw[iA rfl] at q8' ⊢;refine KC (he _ _ _ xe _ s8' σ8 H8' _ J8' q8') λuv s9 zz=>?_;obtain⟨v,H9,J9,r9,hD9,hl9,n9⟩:=zz;obtain⟨m',hm',w9⟩:=hN _ _ _ n9;refine KC (IN (X:=DC X scope cl e3.heap.objs.size (x::fs) e3 H3 fp xe) _ s9 σ8 H9 (.ref s2.heap.objs.size) [v] _ [uv] (λο H'=>H'=jC H9 s2.heap.objs.size (.lst (ys++[v]))) J9 rfl (.cons r9 .nil) ⟨_,ys,v,rfl,rfl,hD9,hl9,rfl⟩) λ_ s10 zz=>?_;obtain⟨_,H10,J10,_,eH⟩:=zz;subst eH;refine⟨m',hm',i+1,ys++[v],σ8,_,J10.unpinned,T.keep _ _ _ st7 λb hb o e=>(J10.pin (b,o) (eA _ (eA _ (dI hb e)))).1,λb hb=>?_,w9⟩;obtain⟨o,e,d⟩:=T.obj _ _ st7 b hb;exact (J10.pin (b,o) (eA _ (eA _ (dI hb e)))).2.1
 subst he3;exact codeAny_compStart_list (loop _ rfl) (T.self X.A 0 _ _ _ hst1 (loop _ rfl))
theorem gE.clos {pins:List (Addr×Obj)} {σ:St} {H:Hp} {s:Shared} {scope:Scope} {x:Str} {fs:List Str} (S:gE scope X.env x fs) (I:kC X pins σ H s):
  ∃cl,closureFor scope X.env=pure cl/\(∀n c,cl.lookup n=some c->X.env.cells.lookup n=some c)/\∀n,(n,NameKind.free)∈scope.names->∃c,cl.lookup n=some c:=
 Yd λn hn=>I.ok.has n (S.fr _ hn rfl)
theorem xR {tg iter elt:Expr} {ifs:List Expr} {scope:Scope} {pos:Pos} {x:Str} {fs:List Str} {ix:List Nat} {wi:TI} {g:TG} {tt:TT} {te:TE} (hc:X.calm=true) (hi:PI X tg iter wi) (hk:ME scope X.env x fs=true) (hix:ix.map (X.N[·]?)=fs.map some)
  (hg:∀cl C s₀ H₀ fp xe,PG (DC X scope cl C (x::fs) s₀ H₀ fp xe) tg g) (hf:∀cl C s₀ H₀ fp xe,PF (DC X scope cl C (x::fs) s₀ H₀ fp xe) ifs tt) (he:∀cl C s₀ H₀ fp xe,PE (DC X scope cl C (x::fs) s₀ H₀ fp xe) elt te) (hs:∀x,foldedSetIterable iter X.env x=pure x:=by intro _;rfl):
  PE X (.ListComp elt [⟨tg,iter,ifs,0⟩] scope pos) (HH wi ix g tt te .mk):=by
 intro pins s σ H Q I h;have S:=gE.of hk;obtain⟨cl,hcl,c1,c2⟩:=S.clos I;rw[eval_ListComp];refine wpAny_comprehension_free (use:=none) rfl hs hcl S.kind S.own (KC (hi pins s σ H _ I h) λv s1 h1=>KC h1 λitv s2 h2=>?_);obtain⟨it,fp,tn,J,H2,e,I2,T,st2,f2,q⟩:=h2;subst e;refine M5 (RR:=λacc C=>compPost (model X.prog X.w) X.A X.xe none (EP X pins σ Q) acc C) I2 T.g st2 f2 (λο ο ο ο=>hc) S c1 c2 hix (λC s₀ H₀ xe=>hg cl C s₀ H₀ fp xe) (λC s₀ H₀ xe=>hf cl C s₀ H₀ fp xe) (λC s₀ H₀ xe=>he cl C s₀ H₀ fp xe) q λD C H' s' I' q' ⟨m,hn⟩ ⟨f0,f1,_,f3,f4,f5⟩=>?_;exact⟨m,hn,λh' hs'=>⟨.ref D,H',I'.turned (t':=s'.toks) (λb o hb e=>(hs'.2 b hb).trans e) f0 f1 f3 f4 f5,rfl,q'⟩⟩
theorem yR {tg iter elt:Expr} {ifs:List Expr} {scope:Scope} {pos spos py:Pos} {x y:Str} {i:Nat} {fs:List Str} {ix:List Nat} {wi:TI} {g:TG} {tt:TT} {te:TE} (hN:X.N.Nodup) (hy:X.N[i]?=some y) (hl:X.env.kindOf y=some .local) (hc:X.calm=true) (hi:PI X tg iter wi)
  (hk:ME scope X.env x fs=true) (hix:ix.map (X.N[·]?)=fs.map some)
  (hg:∀cl C s₀ H₀ fp xe,PG (DC X scope cl C (x::fs) s₀ H₀ fp xe) tg g) (hf:∀cl C s₀ H₀ fp xe,PF (DC X scope cl C (x::fs) s₀ H₀ fp xe) ifs tt) (he:∀cl C s₀ H₀ fp xe,PE (DC X scope cl C (x::fs) s₀ H₀ fp xe) elt te)
  (hsw:swapsWith (.ListComp elt [⟨tg,iter,ifs,0⟩] scope pos) (some (.Name y py)) spos.line X.env=pure true:=by rfl) (hs:∀x,foldedSetIterable iter X.env x=pure x:=by intro _;rfl):
  PS X (.Assign [.Name y py] (.ListComp elt [⟨tg,iter,ifs,0⟩] scope pos) spos) (zI (HH wi ix g tt te .mk) (MG i)):=by
 intro pins s σ H D I h;have S:=gE.of hk;obtain⟨cl,hcl,c1,c2⟩:=S.clos I;rw[exec_Assign_Name_used _ _ _ _ hsw];refine jA (wpAny_standAt (jA ?_));show wpAny _ X.A (do let _<-comprehension (.ListComp elt [⟨tg,iter,ifs,0⟩] scope pos) scope X.env _ (newList []) false (eval iter X.env) (some (assign (.Name y py) X.env))) _ _ s;refine jA (mB (wpAny_comprehension_free (use:=some (assign (.Name y py) X.env)) (Q:=λο s'=>SP X pins D .next s') rfl hs hcl S.kind S.own
  (KC (hi pins s σ H _ I h) λv s1 h1=>KC h1 λitv s2 h2=>?_)) (λο s' hq=>EA (EA hq)) λο ο e=>e)
 obtain⟨it,fp,tn,J,H2,e,I2,T,st2,f2,q⟩:=h2;subst e;refine M5 (RR:=λacc C=>compPost (model X.prog X.w) X.A X.xe (some (assign (.Name y py) X.env)) (λο s'=>SP X pins D .next s') acc C) I2 T.g st2 f2 (λο ο ο ο=>hc) S c1 c2 hix (λC s₀ H₀ xe=>hg cl C s₀ H₀ fp xe) (λC s₀ H₀ xe=>hf cl C s₀ H₀ fp xe) (λC s₀ H₀ xe=>he cl C s₀ H₀ fp xe) q
  λD' C H' s' I' q' ⟨m,hn⟩ ⟨f0,f1,_,f3,f4,f5⟩=>?_
 show wpAny _ X.A (assign (.Name y py) X.env (.ref D')) _ _ _;refine wpAny_assign_Name (P1 (v:=.ref D') I' hN hy (.inl hl) rfl (λs'' I'' ⟨a,sb,ha⟩=>?_) (.inr hl));have hne:C≠a:=by
  rcases ha with ha|ha
  ·rw[ha];exact f1
  ·exact λz=>f4 _ _ ha z.symm
 exact⟨m,hn.sameBut sb hne,λh' hs'=>⟨_,H',I''.turned (t':=s''.toks) (λb o hb e=>(hs'.2 b hb).trans e) f0 f1 f3 f4 f5,q'⟩⟩
end
end L2
namespace L2
open PySem PySem.Spec PyProof.Rows
section
variable {X:Cx} {pins:List (Addr×Obj)} {σ:List (Option V)} {H H':Hp} {s:Shared} {h':Heap}
theorem kC.turnedL {t':Nat} {ch:List Addr} (I:kC X pins σ H s) (k:∀b o,b∉ch->s.heap.get? b=some o->h'.get? b=some o) (hf:∀b∈ch,XD X pins H b):kC X pins σ H {s with heap:=h',toks:=t'}:=by
 have nit:∀b u,H b=some u->b∉ch:=λb u e z=>by rw[(hf b z).1] at e;cases e
 refine I.step (g':=s.gens) (d':=s.drawn) (ch:=ch) (λb hb=>⟨(hf b hb).2.2.2.1,(hf b hb).2.1,(hf b hb).2.2.2.2.1,(hf b hb).2.2.2.2.2⟩) (λb o ο ο hc e ο=>k b o hc e) (λb o ο ο hc e ο=>⟨o.slots,k b o hc e⟩) (λο ο ο ο n=>n)
  (λb o hc e=>⟨o,k b o hc e⟩) (λο ο e=>e) (λο ο ο e=>e) (λb ps e=>⟨#[],by rw[e];simp⟩) (λm hm=>?_) (λb u e=>?_) I.bare
 ·obtain⟨o,es,ep,ho,r⟩:=hm;exact⟨o,es,ep,k _ o (λz=>(hf _ z).2.1 rfl) ho,r⟩
 ·refine (I.hok b u e).stay (λc v hc q=>k c v ?_ q) (λο q=>q) λο ο q=>q;rcases hc with z|z
  ·rw[z];exact nit b u e
  ·exact nit c _ z
end
def zR (K:PySem.W.Frag) (a:Addr):It:=
 ⟨λi H=>∃xs x,QC K H a xs/\xs[i]?=some x,λi H v H'=>∃t x,v=.ref t/\H t=none/\H'=jC H t (.tup [.int i,x])/\∀xs,QC K H a xs->xs[i]?=some x,λi H=>∃xs,QC K H a xs/\xs.length<=i⟩
theorem ae {P:Program} {w:World} {K:PySem.W.Frag} {elts:List Expr} {x1} {pos:Pos} (a e it:Addr) (hne:e≠it):
  KF P w K (.Tuple elts x1 pos) (zR K a) [e,it] e (λi h=>(∃old,IsEnum h e it i old)/\h.IsListIter it a i) where
 mem:=by simp
 obj:=λi h st b hb=>by
  obtain⟨⟨old,he⟩,o,ho,c,d⟩:=st;have hb:b=e\/b=it:=by simpa using hb
  rcases hb with rfl|rfl
  ·exact⟨_,he,λv z=>by
    have z':Data.fields _=Data.cell v:=z;cases z'⟩
  ·exact⟨o,ho,λv z=>by rw[d] at z;cases z⟩
 keep:=λi h h' st k=>⟨let ⟨old,he⟩:=st.1;⟨old,k e (by simp) _ he⟩,st.2.at λo q=>k it (by simp) o q⟩
 item:=by
  intro X hP hw hK hc i pins s σ H E I hf st hg;subst hP hw hK;obtain⟨xs,x,hq,hx⟩:=hg;obtain⟨its,rv,p,hz⟩:=I.list hq;obtain⟨u,hu,ru⟩:=rv.get hx;obtain⟨⟨old,he⟩,hit⟩:=st;refine wpAny_pyNext_enum_item he hit p.isList (x:=u) (by simpa using hu) hne λh1 eo hit1 ht hsz kk=>?_;refine⟨_,rfl,wpAny_letOwnedTupleGo_enum eo λh2 en sb=>?_⟩;have hT:H s.heap.objs.size=none:=I.hok.fresh (kA _);have hef:e≠s.heap.objs.size:=LA (BA he);have hif:it≠s.heap.objs.size:=LA (let ⟨_,ho,_⟩:=hit;BA ho);have ht2:h2.get? s.heap.objs.size=some {cls:=.type "tuple",data:=.seq #[.int i s.toks,u]}:=(sb.2 _ (Ne.symm hef)).trans ht;have I1:kC X pins σ (jC H s.heap.objs.size (.tup [.int i,x])) {s with heap:=s.heap.push {cls:=.type "tuple",data:=.seq #[.int i s.toks,u]}}:=
   I.laid (t':=s.toks) (λb o q=>uA _ q) (kA _) ⟨by show 2<=sizeLine;decide,[.int i s.toks,u],.cons ⟨_,rfl⟩ (.cons ru .nil),⟨_,FA _ rfl,rfl,_,rfl⟩⟩
  have hf1:∀b∈[e,it],XD X pins (jC H s.heap.objs.size (.tup [.int i,x])) b:=λb hb=>by
   refine⟨?_,(hf b hb).2⟩;have hb':b=e\/b=it:=by simpa using hb
   rw[vC (by rcases hb' with rfl|rfl;exact hef;exact hif)];exact (hf b hb).1
  have I2:kC X pins σ (jC H s.heap.objs.size (.tup [.int i,x])) {s with heap:=h2,toks:=s.toks+1}:=by
   have J:=kC.turnedL (t':=s.toks+1) (h':=h2) (ch:=[e,it]) I1 ?k hf1
   ·exact J
   intro b o hb q;dsimp only at q;have hb1:b≠e:=λz=>hb (by simp[z]);have hb2:b≠it:=λz=>hb (by simp[z]);rcases PySem.Heap.get?_push_cases q with ⟨rfl,rfl⟩|q
   ·exact ht2
   ·exact (sb.2 b hb1).trans (kk b o hb1 hb2 q)
  refine⟨.ref s.heap.objs.size,_,I2,rfl,⟨_,x,rfl,hT,rfl,λys hy=>by rw[I.list_inj hy hq];exact hx⟩,⟨⟨_,en⟩,hit1.extBut sb.extBut (Ne.symm hne)⟩,λb hb=>(hf1 b hb).1⟩
 done:=by
  intro X hP hw hK hc i pins s σ H E I hf st hg;subst hP hw hK;obtain⟨xs,hq,hx⟩:=hg;obtain⟨its,rv,p,hz⟩:=I.list hq;obtain⟨⟨old,he⟩,hit⟩:=st;obtain⟨f0,f1,f2,f3,f4,f5⟩:=hf it (by simp);have hl:=rv.length;exact wpAny_pyNext_enum_end (I.ok.hd hc) he hit p.isList (by simp;omega) λh' eb=>⟨rfl,I.turned (t':=s.toks) (λb o hb e=>eb b o hb e) f0 f1 f3 f4 f5⟩
 self:=λο ο ο ο ο st h=>let ⟨_,he⟩:=st.1;wpAny_pyIter_enum he h
section
variable {X:Cx}
def AJ (K:PySem.W.Frag) (ta:TA):TI:=λσ H R=>ta σ H λvs H1=>∃a,vs=[.ref a]/\(∃xs,QC K H1 a xs)/\R (zR K a) H1
theorem be:bootBuiltins "enumerate"=some (.type "enumerate"):=∅
theorem ce {e:Expr} {ta:TA} {p pos tpos:Pos} {elts:List Expr} {x1} (hg:Gl X "enumerate") (hm:X.mg "enumerate"=none) (ha:PA X [e] ta) (hs:starEach [e] X.env=[(false,eval e X.env)]:=by rfl):
  PI X (.Tuple elts x1 tpos) (.Call (.Name "enumerate" p) [e] [] pos) (AJ X.K ta):=by
 intro pins s σ H R I h;refine Call_ (AM I hg hm be (UB (KC (ha pos pins s σ H _ I h) λus s1 zz=>?_) hs rfl));obtain⟨vs,H1,I1,r1,q1⟩:=zz;obtain⟨a,ev,⟨xs,hq⟩,q⟩:=q1;subst ev;cases r1 with
 |cons r rr=>
  cases rr;cases r;obtain⟨its,rv,pl,hz⟩:=I1.list hq;refine call_enumerate_list pl.isList λh' he hit hsz kk=>wpAny_pyIter_enum he ?_;have I2:kC X pins σ H1 {s1 with heap:=h'}:=I1.kept (t':=s1.toks) kk;refine⟨s1.heap.objs.size+1,[s1.heap.objs.size+1,s1.heap.objs.size],_,_,H1,rfl,I2,ae a _ _ (Nat.ne_of_gt (Nat.lt_succ_self _)),⟨⟨_,he⟩,hit⟩,λb hb=>?_,q⟩;have hb:b=s1.heap.objs.size+1\/b=s1.heap.objs.size:=by simpa using hb
  have hle:s1.heap.objs.size<=b:=by rcases hb with rfl|rfl;exact Nat.le_succ _;exact kA _
  exact I1.fpOk hle (I1.hok.fresh hle)
end
theorem de {K:PySem.W.Frag} {a:Addr} {xs:List V} {g:TG} {tb:TS} {h:jG g tb} {D:eE} {σ:St} {H:Hp} (Pv:Nat->St->Hp->Prop) (h0:Pv 0 σ H) (hl:∀i σ H,i<=xs.length->Pv i σ H->QC K H a xs)
  (hs:∀i x t σ H,xs[i]?=some x->Pv i σ H->H t=none->g (.ref t) σ (jC H t (.tup [.int i,x])) λσ2 H2=>tb {D with nx:=Pv (i+1),ct:=Pv (i+1),bk:=D.nx} σ2 H2) (hd:∀σ H,Pv xs.length σ H->D.nx σ H):YG g tb h (zR K a) D σ H:=by
 refine⟨λi m σ H=>i+m=xs.length/\Pv i σ H,⟨xs.length,Nat.zero_add _,h0⟩,λi m σ H ⟨e,p⟩=>?_⟩;have hq:=hl i σ H ⋯ p;by_cases hi:i < xs.length
 ·have ex:xs[i]?=some xs[i]:=GA hi;refine .inr ⟨⟨xs,_,hq,ex⟩,Pv (i+1),λσ H q=>⟨m - 1,⋯,⋯,q⟩,?_⟩;rintro y H' ⟨t,x,rfl,ht,rfl,hy⟩;exact hs i x t σ H (hy xs hq) p ht
 ·have e':i=xs.length:=⋯;subst e';exact .inl ⟨⟨xs,hq,kA _⟩,hd σ H p⟩
theorem N5:∀{ns:List Int} {us:List Value},sC (ns.map V.int) us->IntsAre us ns
 |[],_,h=>by cases h;exact .nil
 |n::ns,_,h=>by
  cases h with
  |cons r rr=>
   obtain⟨t,rfl⟩:=r;exact .cons _ _ (N5 rr)
theorem O5:∀{ns:List Int} {us:List Value},IntsAre us ns->sC (ns.map V.int) us:=by
 intro ns us h
 induction h with
 |nil=>exact .nil
 |cons n t _ ih=>exact .cons ⟨t,rfl⟩ ih
end L2
namespace L2
open PySem PySem.Spec PyProof.Rows
section
variable {X:Cx} {pins:List (Addr×Obj)} {σ:St} {H:Hp} {s:Shared} {a:Addr} {kvs:List (Key×V)} {k:Key} {u r:Value} {z:V} {A:Around} {E:Value->Shared->Prop}
end
section
variable {X:Cx} {o e f:Expr} {apos cpos:Pos} {td ty tx:TE}
end
theorem P5:∀{ns:List Int} {us:List Value},us.length=ns.length->(∀(j:Nat) v,us[j]?=some v->∃t i,ns[j]?=some i/\v=Value.int i t)->IntsAre us ns
 |[],[],_,_=>.nil
 |_::_,[],h,_=>by cases h
 |[],_::_,h,_=>by cases h
 |n::ns,u::us,hl,h=>by
  obtain⟨t,i,e1,e2⟩:=h 0 u rfl;have e1:n=i:=by simpa using e1
  subst e1 e2;exact .cons _ _ (P5 (by simpa using hl) λj v e=>by simpa using h (j+1) v (by simpa using e))
theorem fe {prog:Program} {w:World} {A:Around} {E:Value->Shared->Prop} {s:Shared} {T:String} {r d:Addr} {n:Nat} {P:Nat->Value->Prop} {OK:Heap->Prop} {Q:Value->Shared->Prop}
  (K:PySem.W.KdlSrc prog w T r d n P OK) (hh:A.handled=none) (hok:OK s.heap) (ns:List Int) (hn:n=ns.length) (h64:ns.length < 64)
  (hP:∀j v,P j v->∃t i,ns[j]?=some i/\v=Value.int i t)
  (h:∀(h1 h':Heap) (l:Addr) (tk:Nat) (out:Array Value) (e:Nat) (ms:List Int),(∀b o,s.heap.get? b=some o->h1.get? b=some o)->(∀b o,h1.get? b=some o->h'.get? b=some o)->h1.objs.size<=l->h'.get? l=some (seqObj "list" out e)->
   IntsAre out.toList ms->ms.Perm ns->ms.Pairwise (·<=·)->Q (.ref l) {s with heap:=h',toks:=tk}):
  wpAny (model prog w) A (call (.builtin "sorted") [.ref r]) Q E s:=by
 have hsz:n<=sizeLine:=by rw[sizeLine_eq];omega
 refine Calls.call_function_entry kind_sorted plain_sorted entry_sorted (args_sorted1 _) ?_;unfold Builtin.«sorted»;refine jA (m:=checkCount "sorted" 1 1 _) (EA ?_);refine jA (PySem.W.kdu_collect (A:=A.in1) K hh hok hsz λh' tk acc hk hacc=>?_);have hl:acc.toList.length=n:=by rw[PB];exact hacc.1
 have hI:IntsAre acc.toList ns:=P5 (by rw[hl,hn]) λj v e=>hP j v (hacc.2 j v (by rw[<-YB];exact e));refine jA (wpAny_newList ?_ (by rw[hl];exact hsz));have hoL:(h'.push (seqObj "list" acc.toList.toArray 0)).get? h'.objs.size=some (seqObj "list" acc.toList.toArray 0):=FA _ rfl;refine jA (wpAny_holding (wpAny_call_entry slot_list_sort ⟨_,hoL,rfl⟩ entry_list_sort (list_sort_tree hoL hI (by rw[hl,hn];exact h64) λout ns' a1 a2 a3=>⟨_,rfl,?_⟩) (args_list_sort _)));obtain⟨e,he⟩:=sortedHeap_at (out:=out) hoL;refine EA ⟨_,rfl,h h' _ _ _ out e ns' hk (λb o hb=>?_) (kA _) he a1 a2 a3⟩;have hlt:=BA hb;rw[sortedHeap_old (LA hlt) (by rw[size_push'];exact Nat.lt_succ_of_lt hlt)];exact uA _ hb
theorem BJ {κ:Type} {kvs:List (κ×V)} {vs:List (κ×Value)} (r:KV kvs vs):∀(j:Nat) (k:κ) (x:Value),vs[j]?=some (k,x)->∃v,kvs[j]?=some (k,v)/\pC v x:=by
 unfold KV at r
 induction r with
 |nil=>intro j k x e;simp at e
 |cons q _ ih=>
  intro j k x e;cases j with
  |zero=>
   simp at e;subst e;exact⟨_,by simp;exact Prod.ext q.1 rfl,q.2⟩
  |succ j=>simpa using ih j k x (by simpa using e)
theorem Q5 {X:Cx} (hc:X.calm=true):QD X (.builtin "sorted") (λxs H Q=>∃(p:Addr) (kvs:List (Key×V)) (ns:List Int),xs=[.ref p]/\Rd H p (.dK kvs)/\kvs.map (·.1)=ns.map Sum.inl/\ns.length < 64/\
  ∀l ms,H l=none->List.Perm ms ns->ms.Pairwise (·<=·)->Q (.ref l) (jC H l (.lst (ms.map V.int)))):=by
 intro pins s σ H xs us Q I r h;obtain⟨p,kvs,ns,rfl,hq,hk,h64,q⟩:=h;obtain⟨u,rfl,rx⟩:=IE r;cases rx;obtain⟨z,hd,vs,rel,dd⟩:=jH I.hok hq;obtain⟨ep,hat⟩:=dd.dictAt;have hlen:vs.length=ns.length:=by
  have:=congrArg List.length hk;rw[cA,cA] at this;rw[<-rel.length,this]
 refine fe (PySem.W.kdl_dict (knd:=HC X.prog X.w) (kvs:=vs) (ep:=ep) hd) (I.ok.hd hc) hat ns hlen h64 (λj v hv=>?_) λh1 h' l tk out e ms k0 k1 k2 k3 a1 a2 a3=>?_
 ·obtain⟨k,x,hx,hk2⟩:=hv;obtain⟨v2,hv2,_⟩:=BJ rel j k x hx;have e1:(kvs.map (·.1))[j]?=some k:=by rw[QA,hv2];rfl
  rw[hk,QA] at e1;cases e2:ns[j]? with
  |none=>rw[e2] at e1;cases e1
  |some i=>
   rw[e2] at e1;cases e1;obtain⟨t,ev⟩:=Value.isInt_shape (k:=i) (v:=v) hk2;exact⟨t,i,rfl,ev⟩
 ·have hl:=a2.length_eq;have I1:kC X pins σ H {s with heap:=h1,toks:=tk}:=I.kept (t':=tk) k0;exact⟨.ref l,_,I1.laid (t':=tk) k1 k2 (show MC X.prog X.w _ _ _ (.lst (ms.map V.int)) from ⟨by rw[cA,hl,sizeLine_eq];omega,out.toList,e,O5 a1,k3⟩),rfl,q _ _ (I1.hok.fresh k2) a2 a3⟩
inductive eL (c:TT) (tb:TS):Type where
 |mk:eL c tb
inductive fL (tb:TS):Type where
 |mk:fL tb
def CJ (c:TT) (tb:TS) (_:eL c tb):TS:=rH c tb
def DJ (tb:TS) (_:fL tb) (Pv:Nat->St->Hp->Prop) (m:Nat) (D:eE) (σ:St) (H:Hp):Prop:=
 ∃N:St->Hp->Prop,(∀σ' H',N σ' H'->∃m',m' < m/\Pv m' σ' H')/\tb {D with nx:=N,ct:=N,bk:=D.nx} σ H
theorem R5 {X:Cx} {c:Expr} {body:List Stmt} {tc:TT} {tb:TS} {pos:Pos} (hp:PassesOwn (model X.prog X.w) X.A X.env X.xe) (hc:PT X c tc) (hb:YF X body tb):PS X (.While c body [] pos) (CJ tc tb .mk):=qb hp hc hb
theorem S5 {c:TT} {tb:TS} {h:eL c tb} {D:eE} {σ:St} {H:Hp} (Pv:Nat->St->Hp->Prop) (m0:Nat) (h0:Pv m0 σ H)
 (hs:∀m σ H,Pv m σ H->c σ H λb H1=>if b=true then DJ tb .mk Pv m D σ H1 else D.nx σ H1):CJ c tb h D σ H:=⟨Pv,⟨m0,h0⟩,hs⟩
theorem EJ {tb:TS} {h:fL tb} {Pv:Nat->St->Hp->Prop} {m:Nat} {D:eE} {σ:St} {H:Hp}
 (q:tb {D with nx:=λσ' H'=>∃m',m' < m/\Pv m' σ' H',ct:=λσ' H'=>∃m',m' < m/\Pv m' σ' H',bk:=D.nx} σ H):DJ tb h Pv m D σ H:=⟨_,λο ο h=>h,q⟩
end L2
namespace L2
open PySem PySem.Spec PyProof.Rows
section
variable {X:Cx} {pins:List (Addr×Obj)} {σ:List (Option V)} {H:Hp} {s:Shared} {a:Addr}
theorem kC.rewrite {u v:HO} (I:kC X pins σ H s) (e:H a=some u) (hn:∀b,u≠.own b) (ht:∀xs,u≠.tup xs) (h0:∀w,X.H₀ a=some w->(∃o z,w=.frz o z)\/(∃xs,w=.tup xs)\/(∃ps,w=.tbl ps)->False) (new:MC X.prog X.w (jC H a v) s.heap a v):
  kC X pins σ (jC H a v) s where
 ok:=I.ok
 os:=I.os
 bare:=I.bare
 base:=⟨I.base.keep,I.base.slot,λb o q n hx=>by
   have:=I.base.free b o q n hx;rw[vC (λz=>by rw[z,e] at this;cases this)];exact this,I.base.there,
  λb xs q=>by
   have hb:b≠a:=λz=>h0 _ (z ▸ q) (.inr (.inl ⟨_,rfl⟩));rw[vC hb];exact I.base.tups b xs q,
  λb o z q=>by
   have hb:b≠a:=λz=>h0 _ (z ▸ q) (.inl ⟨_,_,rfl⟩);rw[vC hb];exact I.base.frzs b o z q,
  λb ps q=>by
   have hb:b≠a:=λz=>h0 _ (z ▸ q) (.inr (.inr ⟨_,rfl⟩));rw[vC hb];exact I.base.tbls b ps q⟩
 loc:=I.loc
 cell:=I.cell
 free:=by rw[vC (Ne.symm (bD e I.free))];exact I.free
 freeC:=λx c q=>by
  have:=I.freeC x c q;rw[vC (Ne.symm (bD e this))];exact this
 pin:=λp hp=>by
  obtain⟨p1,p2,p3⟩:=I.pin p hp;exact⟨p1,by rw[vC (Ne.symm (bD e p2))];exact p2,p3⟩
 hok:=λb w q=>by
  by_cases hb:b=a
  ·subst hb;rw[IC] at q;cases q;exact new
  ·rw[vC hb] at q;refine (I.hok b w q).stay (λο ο ο q=>q) (λc q=>?_) λc xs q=>?_
   ·rw[vC (λz=>by rw[z,e] at q;exact hn _ (rA q))];exact q
   ·rw[vC (λz=>by rw[z,e] at q;exact ht _ (rA q))];exact q
 len:=I.len
theorem kC.still {w:HO} (I:kC X pins σ H s) (h:X.H₀ a=some w) (hw:(∃o z,w=.frz o z)\/(∃xs,w=.tup xs)\/(∃ps,w=.tbl ps)):(∃o z,H a=some (.frz o z))\/(∃xs,H a=some (.tup xs))\/(∃ps,H a=some (.tbl ps)):=by
 rcases hw with ⟨o,z,rfl⟩|⟨xs,rfl⟩|⟨ps,rfl⟩
 ·exact .inl ⟨o,z,I.base.frzs a o z h⟩
 ·exact .inr (.inl ⟨xs,I.base.tups a xs h⟩)
 ·obtain⟨m,e⟩:=I.base.tbls a ps h;exact .inr (.inr ⟨_,e⟩)
theorem kC.freeze {kvs:List (Key×V)} (I:kC X pins σ H s) (e:H a=some (.dK kvs)):∃o,s.heap.get? a=some o/\kC X pins σ (jC H a (.frz o (.dK kvs))) s:=by
 obtain⟨z,hd,vs,rel,o,es,ep,ho,r⟩:=I.hok a _ e;refine⟨o,ho,I.rewrite e (λο z=>by cases z) (λο z=>by cases z) (λw hw h=>?_) ⟨ho,z,hd,vs,rel,o,es,ep,ho,r⟩⟩;rcases I.still hw h with ⟨_,_,q⟩|⟨_,q⟩|⟨_,q⟩<;>(rw[e] at q;cases q)
theorem kC.thaw {kvs:List (Key×V)} {o:Obj} (I:kC X pins σ H s) (e:H a=some (.frz o (.dK kvs))) (h0:∀o u,X.H₀ a≠some (.frz o u)):kC X pins σ (jC H a (.dK kvs)) s:=by
 obtain⟨ho,z,hd,vs,rel,dd⟩:=I.hok a _ e;refine I.rewrite e (λο z=>by cases z) (λο z=>by cases z) (λw hw h=>?_) ⟨z,hd,vs,rel,dd⟩;rcases h with ⟨_,_,rfl⟩|h
 ·exact h0 _ _ hw
 ·rcases I.still hw (.inr h) with ⟨o',z',q⟩|⟨_,q⟩|⟨_,q⟩
  ·rcases h with ⟨xs,rfl⟩|⟨ps,rfl⟩
   ·have:=I.base.tups a xs hw;rw[e] at this;cases this
   ·obtain⟨m,this⟩:=I.base.tbls a ps hw;rw[e] at this;cases this
  ·rw[e] at q;cases q
  ·rw[e] at q;cases q
end
def YE (a:Addr) (H:Hp):Hp:=match H a with
 |some (.frz _ (.dK kvs))=>jC H a (.dK kvs)
 |_=>H
theorem ie {a:Addr} {H:Hp} {o:Obj} {kvs:List (Key×V)} (h:H a=some (.frz o (.dK kvs))):YE a H=jC H a (.dK kvs):=by unfold YE;rw[h]
set_option tactic.hygienic true in
theorem kC.thawed {X:Cx} {pins:List (Addr×Obj)} {σ:List (Option V)} {H:Hp} {s:Shared} {a:Addr} (I:kC X pins σ H s) (h0:∀o u,X.H₀ a≠some (.frz o u)):kC X pins σ (YE a H) s:=by
 unfold YE
 split
 ·rename_i h;exact I.thaw h h0
 ·exact I
def IH (a:Addr) (D:eE):eE:={D with nx:=λσ H=>D.nx σ (YE a H),bk:=λσ H=>D.bk σ (YE a H),ct:=λσ H=>D.ct σ (YE a H),rt:=λv H=>D.rt v (YE a H)}
def FJ (X:Cx) (t:TS):TS:=λD σ H=>∃a,(∀o u,X.H₀ a≠some (.frz o u))/\t (IH a D) σ H
theorem je {X:Cx} {st:Stmt} {t:TS} (h:PS X st t):PS X st (FJ X t):=by
 intro pins s σ H D I hh;obtain⟨a,h0,hh⟩:=hh;refine mB (h pins s σ H (IH a D) I hh) (λf s' q=>?_) λο ο e=>e;unfold SP at q ⊢;cases f with
 |next=>obtain⟨σ',H',I',q⟩:=q;exact⟨σ',_,I'.thawed h0,q⟩
 |brk=>obtain⟨σ',H',I',q⟩:=q;exact⟨σ',_,I'.thawed h0,q⟩
 |cont=>obtain⟨σ',H',I',q⟩:=q;exact⟨σ',_,I'.thawed h0,q⟩
 |ret u=>obtain⟨v,σ',H',I',r,q⟩:=q;exact⟨v,σ',_,I'.thawed h0,r,q⟩
theorem AR {X:Cx} {pins:List (Addr×Obj)} {σ:List (Option V)} {H:Hp} {s:Shared} {a:Addr} {o:Obj} {kvs:List (Key×V)} {ep:Nat} {es} (I:kC X pins σ H s) (e:H a=some (.frz o (.dK kvs))) (he:o.data=.dict es ep):
  ∃vs,KV kvs vs/\s.heap.DictAt (HC X.prog X.w) a vs ep/\(a == sysModules)=false:=by
 obtain⟨ho,z,hd,vs,rel,o',es',ep',ho',c,d,r⟩:=I.hok a _ e;rw[ho] at ho';cases ho';rw[he] at d;cases d;exact⟨vs,rel,⟨o,es,ho,c,he,r⟩,hd⟩
end L2
namespace L2
open PySem PySem.Spec PyProof.Rows
def XN (K:PySem.W.Frag) (n:Nat):R2:=λx y H Q=>(x=.non/\y=.non/\Q (.bl true) H)\/(x=.non/\(∃a xs,y=.ref a/\ZC K H a xs)/\Q (.bl false) H)\/((∃a xs,x=.ref a/\ZC K H a xs)/\y=.non/\Q (.bl false) H)\/UN K n x y H Q
theorem gL {X:Cx} {n:Nat} (hu:X.A.units+n+2 < cLine):HE X (compareOp .Eq) (XN X.K n):=by
 intro pins s σ H x y u v Q I rx ry h;rcases h with ⟨rfl,rfl,q⟩|⟨rfl,⟨a,xs,rfl,hy⟩,q⟩|⟨⟨a,xs,rfl,hx⟩,rfl,q⟩|h
 ·cases rx;cases ry;exact SeqAt.RcAt.none_none X.prog X.w X.xe _ ⟨.bl true,H,I,rfl,q⟩
 ·cases rx;cases ry;obtain⟨its,r,p,hz⟩:=I.tuple hy;exact SeqAt.RcAt.none_tuple (A:=X.A) (s:=s) (show s.heap.IsTuple a its.toArray from p) ⋯ X.prog X.w X.xe _ ⟨.bl false,H,I,rfl,q⟩
 ·cases rx;cases ry;obtain⟨its,r,p,hz⟩:=I.tuple hx;exact SeqAt.RcAt.tuple_none (A:=X.A) (s:=s) (show s.heap.IsTuple a its.toArray from p) ⋯ X.prog X.w X.xe _ ⟨.bl false,H,I,rfl,q⟩
 ·exact bL hu pins s σ H x y u v Q I rx ry h
end L2
namespace L2
open PySem PySem.Spec PyProof.Rows
end L2
namespace L2
open PySem PySem.Spec PyProof.Rows
end L2
namespace L2
open PySem PySem.Spec PyProof.Rows
theorem dQ {X:Cx} {K:PySem.W.Frag} (h:X.K=K):BN X (JK K):=h ▸ fE
end L2
namespace L2
open PySem PySem.Spec PyProof.Rows
structure ZG (K:PySem.W.Frag) (x qual:Str) (st:Stmt) (f:Addr) (fd:FuncData):Prop where
 ex:∃(oc:Value) (od:Option Addr) (dV kV doc pm:Value) (an:Option Addr) (cdv ct:Value) (osl:Array (Option Value)),
  fd=PySem.W.fnOf x qual (zC st) (xC st) (cC st) dV kV doc pm an cdv ct/\K.lookup f=some ⟨oc,od,.func fd,osl⟩/\PySem.W.codeIn K cdv qual=true
 kp:PySem.W.keepIn K (.ref f)=true
section
variable {P:Program} {w:World} {K:PySem.W.Frag} {mg:Str->Option Value} {base:Heap}
theorem GJ {x qual:Str} {st:Stmt} {f:Addr} {oc:Value} {od an:Option Addr} {osl:Array (Option Value)} {dV kV doc pm cdv ct:Value} (l:K.lookup f=some ⟨oc,od,.func (PySem.W.fnOf x qual (zC st) (xC st) (cC st) dV kV doc pm an cdv ct),osl⟩)
 (c:PySem.W.codeIn K cdv qual=true) (k:PySem.W.keepIn K (.ref f)=true):ZG K x qual st f (PySem.W.fnOf x qual (zC st) (xC st) (cC st) dV kV doc pm an cdv ct):=⟨⟨oc,od,dV,kV,doc,pm,an,cdv,ct,osl,rfl,l,c⟩,k⟩
theorem ZG.okE {x qual:Str} {st:Stmt} {f:Addr} {fd:FuncData} {N ps:List Str} {k:Nat} {sp:Sp} (F:ZG K x qual st f fd) (S:fC N ps (cC st)) (len:∀vs H Q E,sp vs H Q E->vs.length=ps.length)
  (hbody:eF P w K mg base qual st N k sp):BE P w K mg base (iG P w) (k+1) f fd ps sp:=by
 obtain⟨oc,od,dV,kV,doc,pm,an,cdv,ct,osl,rfl,lk,hcd⟩:=F.ex;exact VQ lk hcd S len λA outer s H vs Q E hr hsp=>hbody f cdv A outer s H vs Q E hr hsp
def xE (K:PySem.W.Frag) (C:Addr) (m qual:Str) (st:Stmt) (ps:List Str) (dvs:List V):Prop:=∃f fd ds,tG K C m f/\ZG K m qual st f fd/\RD K fd ps ds/\sC dvs ds
def HJ (K:PySem.W.Frag) (mg:Str->Option Value) (x:Str) (C:Addr) (qual:Str) (st:Stmt) (ps:List Str) (dvs:List V):Prop:=∃f fd ds,mg x=some (.ref C)/\Mk K C f/\ZG K "__init__" qual st f fd/\RD K fd ps ds/\sC dvs ds
theorem xE.have {C:Addr} {m qual:Str} {st:Stmt} {N ps:List Str} {dvs:List V} {k:Nat} {sp:Sp} (R:xE K C m qual st ps dvs) (S:fC N ps (cC st)) (len:∀vs H Q E,sp vs H Q E->vs.length=ps.length)
  (hbody:eF P w K mg base qual st N k sp):AC P w K mg base C m (k+1) ps dvs sp:=
 let ⟨f,fd,ds,hm,F,hb,hd⟩:=R
 ⟨f,fd,ds,hm,hb,hd,F.okE S len hbody⟩
theorem HJ.have {C:Addr} {x qual:Str} {st:Stmt} {N ps:List Str} {dvs:List V} {k:Nat} {sp:Sp} (R:HJ K mg x C qual st ps dvs) (S:fC N ps (cC st)) (len:∀vs H Q E,sp vs H Q E->vs.length=ps.length)
  (hbody:eF P w K mg base qual st N k sp):XE P w K mg base x C (k+1) ps dvs sp:=
 let ⟨f,fd,ds,hm,M,F,hb,hd⟩:=R
 ⟨f,fd,ds,hm,M,hb,hd,F.okE S len hbody⟩
end
end L2
namespace L2
open PySem PySem.Spec PyProof.Rows
theorem IJ {K:PySem.W.Frag} {fd:FuncData} {ps:List Str} {ds:List Value} (n:Nat) (hn:ps.length=n+ds.length) (h:∀(s:Shared) (us:List Value),K.In s.heap->us.length=n->BindsTo s fd ⟨us,[]⟩ (ps.zip (us++ds))):RD K fd ps ds:=
 λs us X hl=>h s us X (by rw[oA,hn] at hl;omega)
end L2
namespace L2
open PySem PySem.Spec PyProof.Rows
end L2
namespace L2
open PySem PySem.Spec PyProof.Rows
section
variable {X:Cx}
end
theorem sC.at {xs:List V} {us:List Value} (r:sC xs us) (m:Nat) (h1:m < xs.length) (h2:m < us.length):pC xs[m] us[m]:=by
 obtain⟨u,hu,ru⟩:=r.get (GA h1);rw[GA h2] at hu;cases hu;exact ru
end L2
namespace L2
open PySem PySem.Spec PyProof.Rows
end L2
namespace L2
open PySem PySem.Spec PyProof.Rows
section
variable {prog:Program} {w:World} {K:Type} [DecidableEq K] {knd:HeapKind prog w K} {A:Around} {E:Value->Shared->Prop} {s:Shared}
end
end L2
namespace L2
open PySem PySem.Spec PyProof.Rows
def SE (h:Heap) (d:Addr) (es:Array DictEntry) (ep:Nat):Prop:=∃o,h.get? d=some o/\o.ExactDict/\o.data=.dict es ep
theorem SE.ty {s:Shared} {d:Addr} {es:Array DictEntry} {ep:Nat} (r:SE s.heap d es ep):s.TypeIs (.ref d) "dict":=let ⟨o,ho,hc,_⟩:=r;⟨o,ho,hc.1⟩
theorem SE.lt {h:Heap} {d:Addr} {es:Array DictEntry} {ep:Nat} (r:SE h d es ep):d < h.objs.size:=let ⟨_,ho,_⟩:=r;BA ho
theorem SE.kept {h h':Heap} {d:Addr} {es:Array DictEntry} {ep:Nat} (r:SE h d es ep) (k:∀o,h.get? d=some o->h'.get? d=some o):SE h' d es ep:=let ⟨o,ho,q⟩:=r;⟨o,k _ ho,q⟩
section
variable {prog:Program} {w:World} {A:Around} {E:Value->Shared->Prop} {s:Shared} {d it:Addr} {es:Array DictEntry} {ep i:Nat}
theorem T5 {Q:Value->Shared->Prop} (nd:(d == sysModules)=false) (r:SE s.heap d es ep)
  (q:Q (.ref s.heap.objs.size) {s with heap:=s.heap.push {cls:=.type "dict_keyiterator",data:=.fields #[.ref d,.int 0 0,.int es.size 0,.int ep 0]}}):wpAny (model prog w) A (pyIter (.ref d)) Q E s:=by
 obtain⟨o,e0,ec,ed⟩:=id r;refine wpAny_pyIter_slot r.ty PySem.F.slot_dict_iter (wpAny_call_entry PySem.F.slot_dict_iter r.ty PySem.F.entry_dict_iter ?_ (PySem.F.args_dict_iter_1 _));unfold Builtin.«dict.__iter__» Builtin.Dict.dictSlotNone Builtin.Dict.showsAll;refine jA (jA (wpAny_notOrdered_dict r.ty (EA ?_)));refine jA (m:=if d == sysModules then _ else _) ?_;rw[fA (by rw[nd];exact wA)];refine EA (jA (wpAny_dictEntries e0 ed (jA (wpAny_dictEpoch e0 ed ?_))));exact jA (wpAny_newObj_type (EA ⟨_,rfl,"dict_keyiterator",_,⟨_,FA _ rfl,rfl⟩,PySem.F.slot_dict_keyiterator_next.lookup,by simpa[rawInt] using q⟩))
theorem U5 {Q:Option Value->Shared->Prop} (t:s.heap.IsKeyIter it d i es.size ep) (r:SE s.heap d es ep) (hi:i < es.size)
  (q:∀h',h'.IsKeyIter it d (i+1) es.size ep->Heap.SameBut it s.heap h'->Q (some es[i].key) {s with heap:=h'}):wpAny (model prog w) A (pyNext (.ref it)) Q E s:=by
 obtain⟨b,b0,bc,bd⟩:=id t;obtain⟨o,e0,ec,ed⟩:=id r;unfold pyNext;refine jA (wpAny_attempt (wpAny_callSpecial?_slot (name:=Str.ofString "__next__") t.typeIs PySem.F.slot_dict_keyiterator_next (wpAny_call_entry PySem.F.slot_dict_keyiterator_next t.typeIs PySem.F.entry_dict_keyiterator_next ?_ (PySem.F.args_dict_keyiterator_next_1 _))));refine jA (EA (jA (jA (jA (NB t.typeIs (EA (jA (wpAny_fieldsOf b0 bd ?_))))))));simp only[show Builtin.Dict_items.ownsTuple "dict_keyiterator"=false by decide,XB,bC];show wpAny _ _ (if (Value.ref d == Value.none)=true then _ else _) _ _ s;rw[fA (show ¬((Value.ref d == Value.none)=true) from wA)];refine jA (EA (jA (wpAny_dictEntries e0 ed ?_)));rw[fA (by simp)];refine jA (EA (jA (wpAny_dictEpoch e0 ed ?_)));rw[fA (by simp)];refine EA ?_;simp only[show ¬((i:Int) < 0) from by omega,bC,pB,HB hi];refine jA (jA (NB t.typeIs (EA (jA (wpAny_isOneOf_keyiter t.typeIs ?_)))));show wpAny _ _ (setField (.ref it) 1 (rawInt ((i:Int)+1)) >>= _) _ _ s;refine jA (wpAny_setField b0 bd (by simp) ?_);have t2:(s.heap.update it (Obj.mapFields (·.setIfInBounds 1 (rawInt ((i:Int)+1))))).IsKeyIter it d (i+1) es.size ep:=⟨_,Heap.get?_update_self _ b0 (Obj.isFreed_of_fields (Obj.data_mapFields bd _)),(Obj.cls_mapFields ..).trans bc,by rw[Obj.data_mapFields bd];simp[rawInt]⟩
 refine jA (wpAny_holding (jA (wpAny_isOneOf_keyiter (s:={s with heap:=s.heap.update it (Obj.mapFields (·.setIfInBounds 1 (rawInt ((i:Int)+1))))}) t2.typeIs ?_)));show wpAny _ _ (pure es[i].key) _ _ _;exact EA (EA ⟨_,rfl,EA (q _ t2 (Heap.SameBut.update ..))⟩)
theorem V5 {Q:Option Value->Shared->Prop} (hh:A.handled=none) (t:s.heap.IsKeyIter it d es.size es.size ep) (r:SE s.heap d es ep)
  (q:∀h',Heap.ExtBut it s.heap h'->Q none {s with heap:=h'}):wpAny (model prog w) A (pyNext (.ref it)) Q E s:=by
 obtain⟨b,b0,bc,bd⟩:=id t;obtain⟨o,e0,ec,ed⟩:=id r;unfold pyNext;refine jA (wpAny_attempt (wpAny_callSpecial?_slot (name:=Str.ofString "__next__") t.typeIs PySem.F.slot_dict_keyiterator_next (wpAny_call_entry PySem.F.slot_dict_keyiterator_next t.typeIs PySem.F.entry_dict_keyiterator_next ?_ (PySem.F.args_dict_keyiterator_next_1 _))));refine jA (EA (jA (jA (jA (NB t.typeIs (EA (jA (wpAny_fieldsOf b0 bd ?_))))))));simp only[show Builtin.Dict_items.ownsTuple "dict_keyiterator"=false by decide,XB,bC];show wpAny _ _ (if (Value.ref d == Value.none)=true then _ else _) _ _ s;rw[fA (show ¬((Value.ref d == Value.none)=true) from wA)];refine jA (EA (jA (wpAny_dictEntries e0 ed ?_)));rw[fA (by simp)];refine jA (EA (jA (wpAny_dictEpoch e0 ed ?_)));rw[fA (by simp)];refine EA ?_;simp only[show ¬((es.size:Int) < 0) from by omega,bC,pB,Array.getElem?_eq_none (kA es.size)];refine jA (jA (NB t.typeIs (EA ?_)));show wpAny _ _ (setField (.ref it) 0 .none >>= _) _ _ s;refine jA (wpAny_setField b0 bd (by simp) ?_);show wpAny _ _ (newExc (.type "StopIteration") [] >>= _) _ _ _;refine jA ?_;simp only[newExc,newTuple];refine jA (wpAny_newObj_type (jA (m:=firstArgMember _ _) (wpAny_of_eq (a:=Value.none) (by first|rfl|(simp only[firstArgMember];rfl)) (wpAny_newObj_type ?_ (by size_fits)))) (by size_fits));simp only[raiseNew];refine jA (wpAny_handled ?_);rw[show A.in1.handled=none from hh];refine jA (EA (wpAny_throw ?_));refine jA (m:=isInstance _ _) (wpAny_isInstance (b:=true) (T:="StopIteration") ⟨_,FA _ rfl,rfl⟩ isSubtype_stop ?_);exact EA (q _ (((Heap.SameBut.update ..).extBut.push _).push _))
theorem ke (hh:A.handled=none) (I:Addr) (ne:d≠I):Walks prog w A I [I,d] [I] es.size (λi v=>∃h:i < es.size,v=es[i].key) (λi h=>h.IsKeyIter I d i es.size ep/\SE h d es ep) where
 sub:=λb hb=>vA.mpr (.inl (aA.mp hb))
 frame:=λο ο ο x k=>⟨x.1.at λo e=>k I (qA ..) o e,x.2.kept λo e=>k d (xA _ (qA ..)) o e⟩
 item:=λi s Q E hi x q=>U5 x.1 x.2 hi λh' t2 sb=>q _ h' s.toks ⟨hi,rfl⟩ ⟨t2,x.2.kept λo e=>(sb.2 d ne).trans e⟩ λb o hb e=>(sb.2 b λz=>hb (aA.mpr z)).trans e
 done:=λs Q E x q=>V5 hh x.1 x.2 λh' eb=>q h' s.toks λb o hb e=>eb b o (λz=>hb (aA.mpr z)) e
 self:=λο ο ο ο x q=>wpAny_pyIter_keyiter x.1 q
theorem qe (nd:(d == sysModules)=false):PySem.W.KdlSrc prog w "dict" d d es.size (λi v=>∃h:i < es.size,v=es[i].key) (λh=>SE h d es ep) where
 type:=λο r=>r.ty
 there:=λο r=>⟨r.lt,r.lt⟩
 keep:=λο ο r k=>r.kept λo e=>k d (.inl rfl) o e
 notList:=by decide
 notTuple:=by decide
 hint:=λο ο ο ο r q=>PySem.W.kdl_hint_dict r.ty q
 iter:=λο ο hh r=>⟨_,_,(λο ο q=>T5 nd r q),ke hh _ (LA r.lt),⟨⟨_,FA _ rfl,rfl,rfl⟩,r.kept λo e=>uA _ e⟩⟩
end
def RG (H:Hp) (ks:List (List Key)) (vs:List V):Prop:=Paired (λk v=>∃a,v=V.ref a/\H a=some (.tup (k.map kV))) ks vs
theorem iL {H:Hp} {kvs:List (List Key×V)} {ys:List (List Key×Addr×Value)} (r:KT H kvs ys):sC (ys.map λy=>V.ref y.2.1) (ys.map λy=>Value.ref y.2.1)/\RG H (kvs.map (·.1)) (ys.map λy=>V.ref y.2.1):=by
 induction r with
 |nil=>exact⟨.nil,.nil⟩
 |cons r t ih=>exact⟨.cons rfl ih.1,.cons ⟨_,rfl,r.2.1⟩ ih.2⟩
theorem re {X:Cx} (hc:X.calm=true):QD X (.type "list") (λxs H Q=>∃p kvs,xs=[.ref p]/\H p=some (.dT kvs)/\∀l vs,H l=none->RG H (kvs.map (·.1)) vs->Q (.ref l) (jC H l (.lst vs))):=by
 intro pins s σ H xs us Q I r h;obtain⟨p,kvs,rfl,hp,q⟩:=h;obtain⟨u,rfl,ru⟩:=IE r;cases ru;obtain⟨z,nd,ys,rel,o,es,ep,e0,ec,ed,he,_⟩:=JN I.hok hp;have hsz:=size_of_entries he;have hlen:=Paired.length rel;refine PySem.W.kdl_call (qe (es:=es) (ep:=ep) nd) (I.ok.hd hc) ⟨o,e0,ec,ed⟩ ⋯ λh' tk acc c kp hl it=>?_;have hv:∃vs,sC vs acc.toList/\RG H (kvs.map (·.1)) vs:=by
  have hacc:acc.toList=ys.map λy=>Value.ref y.2.1:=by
   refine List.ext_getElem? λj=>?_;rw[QA];by_cases c:j < es.size
   ·have hj:j < acc.toList.length:=by rw[PB,it.1];exact c
    obtain⟨_,e⟩:=it.2 j _ (by rw[<-YB];exact GA hj);rw[GA hj,e];have e3:=entry_at he j;rw[HB c,GA ⋯] at e3;have e3:=rA e3;rw[e3,GA ⋯]
    rfl
   ·rw[List.getElem?_eq_none (by rw[PB,it.1];omega),List.getElem?_eq_none ⋯]
    rfl
  rw[hacc];exact⟨_,iL rel⟩
 obtain⟨vs,rv,hk⟩:=hv;have hvl:=rv.length;have I2:=I.laid (t':=tk) kp (kA _) (show MC X.prog X.w _ h' _ (.lst vs) from ⟨by rw[hvl,PB,it.1];omega,acc.toList,c,rv,hl⟩);exact⟨.ref s.heap.objs.size,_,I2,rfl,q _ _ (I.hok.fresh (kA _)) hk⟩
end L2
namespace L2
open PySem PySem.Spec PyProof.Rows
def JH (wi:TI) (k:Nat) (ix:List Nat) (g:TG) (tt:TT) (te:TE) (h:CG g tt te):TE:=λσ H Q=>wi σ H λJ H1=>∀D,H1 D=none->DG g tt te h J (List.replicate k none++ix.map λi=>(σ[i]?).join) D (λH'=>Q (.ref D) H') H1
section
variable {X:Cx}
theorem ue {pins:List (Addr×Obj)} {σ:St} {H2:Hp} {s2:Shared} {it:Addr} {fp:List Addr} {tn:Nat->Heap->Prop} {J:It} {tg iter elt:Expr} {ifs:List Expr} {scope:Scope} {cl:List (Str×Addr)} {pos:Pos} {x:Str} {xs fs:List Str} {ix:List Nat} {g:TG} {tt:TT} {te:TE}
  {Qf:Addr->Hp->Prop} {E:Value->Shared->Prop} {RR:Value->Addr->Result->Shared->Prop}
  (I2:kC X pins σ H2 s2) (T:KF X.prog X.w X.K tg J fp it tn) (st2:tn 0 s2.heap) (f2:∀b∈fp,XD X pins H2 b) (hc:X.calm=true) (S:gE scope X.env x fs)
  (c1:∀n c,cl.lookup n=some c->X.env.cells.lookup n=some c) (c2:∀n,(n,NameKind.free)∈scope.names->∃c,cl.lookup n=some c) (hix:ix.map (X.N[·]?)=fs.map some)
  (hg:∀C s₀ H₀ xe,PG (DC X scope cl C (xs++fs) s₀ H₀ fp xe) tg g) (hf:∀C s₀ H₀ xe,PF (DC X scope cl C (xs++fs) s₀ H₀ fp xe) ifs tt) (he:∀C s₀ H₀ xe,PE (DC X scope cl C (xs++fs) s₀ H₀ fp xe) elt te)
  (h:∀D,H2 D=none->DG g tt te .mk J (List.replicate xs.length none++ix.map λi=>(σ[i]?).join) D (Qf D) H2)
  (fin:∀D C H' s',kC X pins σ H' s'->Qf D H'->(∃m,s'.heap.Ns C m)->XD X pins H' C->RR (.ref D) C (.ok .next) s'):
  wpAny (model X.prog X.w) X.A (newList []) (λacc s₃=>wpAny (model X.prog X.w) X.A (newFunctionEnv scope X.env.globals cl [] X.env.qual none .none (some X.env)) (λcenv s₄=>
   codeAny (model X.prog X.w) X.A (.compStart (.ListComp elt [⟨tg,iter,ifs,0⟩] scope pos) 0 (.ref it) acc {cenv with scope:=relabel scope X.env}) (RR acc cenv.locals) s₄) E s₃) E s2:=by
 have hD:H2 s2.heap.objs.size=none:=I2.hok.fresh (kA _);obtain⟨W,⟨m0,w0⟩,turn⟩:=h _ hD;refine wpAny_newObj_type (wpAny_newFunctionEnv S.nocell (by intro y hy;simp at hy) (λh₁ hns₁ hsb₁=>?_) S.kind);have I3:kC X pins σ (jC H2 s2.heap.objs.size (.lst [])) {s2 with heap:=s2.heap.push {cls:=.type "list",dict:=none,data:=.seq ([]:List Value).toArray}}:=
  I2.laid (t':=s2.toks) (λb u e=>uA _ e) (kA _) ⟨by decide,[],0,.nil,FA _ rfl⟩
 obtain⟨e3,he3⟩:∃s3:Shared,s3={s2 with heap:=s2.heap.push {cls:=.type "list",dict:=none,data:=.seq ([]:List Value).toArray}}:=⟨_,rfl⟩
 rw[<-he3] at I3;have hh3:s2.heap.push {cls:=.type "list",dict:=none,data:=.seq ([]:List Value).toArray}=e3.heap:=by rw[he3]
 have sz3:e3.heap.objs.size=s2.heap.objs.size+1:=by rw[<-hh3,Heap.size_push]
 dsimp only at hns₁ hsb₁ ⊢;rw[hh3] at hns₁ hsb₁ ⊢;generalize hH3:jC H2 s2.heap.objs.size (.lst [])=H3 at *;have live:∀b∈fp,b < s2.heap.objs.size:=λb hb=>let ⟨_,e,_⟩:=T.obj _ _ st2 b hb;BA e
 have f3:∀b∈fp,XD X pins H3 b:=λb hb=>by
  refine⟨?_,(f2 b hb).2⟩;rw[<-hH3,vC (LA (live b hb))];exact (f2 b hb).1
 have C0:XD X pins H3 e3.heap.objs.size:=I3.fpOk (kA _) (I3.hok.fresh (kA _));have old3:∀b o,e3.heap.get? b=some o->h₁.get? b=some o:=λb o e=>hsb₁.extBut b o (LA (BA e)) (uA _ e);have nofs:∀b∈fp,b∉PD X.stack:=λb hb z=>(vA.mp (I3.stkSub b z)).elim (f3 b hb).2.1 (f3 b hb).2.2.1;have hst1:tn 0 h₁:=T.keep _ _ _ st2 λb ο o e=>old3 b o (by rw[<-hh3];exact uA _ e);have e0:=I3.env0;have ok:∀xe,(DC X scope cl e3.heap.objs.size (xs++fs) e3 H3 fp xe).Ok:=λxe=>by
  refine⟨I3.ok.mod,S.kind,I3.ok.glob,I3.ok.blt,kA _,λy z c h1 h2=>I3.ok.inj y z c (c1 _ _ h1) (c1 _ _ h2),λy hy=>?_,λy c z=>?_,I3.ok.hd,I3.ok.frames,.inl rfl,λb hb=>⟨?_,λy c e=>(f3 b hb).2.2.2.2.1 y c (c1 _ _ e)⟩,e0.bs,e0.bsz,λb o e hb=>?_,nofs,e0.funs,e0.frf⟩
  ·have q:scope.names.lookup y=some .free\/scope.names.lookup y=some .cell:=by
    rcases hy with hy|hy
    ·exact WN hy (.inl rfl)
    ·exact WN hy (.inr rfl)
   rcases q with q|q
   ·exact c2 y (PySem.mem_of_lookup q)
   ·exact absurd rfl (S.nocell _ (PySem.mem_of_lookup q))
  ·cases z
  ·exact LA (KA (live b hb) (by rw[sz3];exact Nat.le_succ _))
  ·rcases (f3 b hb).2.2.2.1 with z|z
   ·exact I3.ok.noex b o e z
   ·exact absurd (KA (BA e) (dB I3.ok.bsz z)) (VB _)
 have cellUp:∀c v,e3.heap.IsCell c v->h₁.IsCell c v:=λc v ⟨o,ho,hd⟩=>⟨o,old3 _ _ ho,hd⟩
 have J0:∀xe,kC (DC X scope cl e3.heap.objs.size (xs++fs) e3 H3 fp xe) [] (List.replicate xs.length none++ix.map λi=>(σ[i]?).join) H3 {e3 with heap:=h₁,toks:=e3.toks+([]:List (Str×Value)).length}:=λxe=>by
  have hk:∀b o,e3.heap.get? b=some o->h₁.get? b=some o:=old3;refine⟨ok xe,rfl,I3.bare,Un.kept hk,⟨_,hns₁,λi y v h1 h2 h3=>?_⟩,λy c e=>?_,I3.hok.fresh (kA _),λy c e=>I3.freeC y c (c1 _ _ e),λp hp=>absurd (show p∈([]:List (Addr×Obj)) from hp) (by simp),I3.hok.kept hk,?_⟩
  ·by_cases hlt:i < xs.length
   ·have h2:(List.replicate xs.length (none:Option V)++ix.map λi=>(σ[i]?).join)[i]?=some (some v):=h2;rw[List.getElem?_append_left (by rw[rB];exact hlt)] at h2;have z:=List.eq_of_mem_replicate (JA h2);cases z
   ·have h1:(xs++fs)[i]?=some y:=h1;have h2:(List.replicate xs.length (none:Option V)++ix.map λi=>(σ[i]?).join)[i]?=some (some v):=h2;rw[lB ⋯] at h1;rw[lB (by rw[rB];omega),rB] at h2;generalize i - xs.length=i at h1 h2;have hy:=S.fs y (JA h1);rw[QA] at h2;cases ej:ix[i]? with
    |none=>rw[ej] at h2;cases h2
    |some j=>
     rw[ej] at h2;have h2:(σ[j]?).join=some v:=rA h2;have hσ:σ[j]?=some (some v):=by
      cases q:σ[j]? with
      |none=>rw[q] at h2;cases h2
      |some o=>rw[q] at h2;cases o with
       |none=>cases h2
       |some o=>cases h2;rfl
     have hN:X.N[j]?=some y:=by
      have z:=congrArg (·[i]?) hix;simp only[QA,ej,h1,Option.map_some] at z;exact rA z
     have kf:=S.fr _ (PySem.mem_of_lookup hy) rfl;obtain⟨m,hn,hl⟩:=I3.loc;obtain⟨u,r,l⟩:=hl j y v hN hσ (by rcases kf with k|k;exact .inr (.inl k);exact .inr (.inr k));refine⟨u,r,.inr ⟨vR hy,?_⟩⟩;rcases l with ⟨l,_⟩|⟨_,c,e,z⟩
     ·rcases kf with k|k<;>(rw[l] at k;cases k)
     ·obtain⟨c',e'⟩:=c2 y (PySem.mem_of_lookup hy);have q:=c1 _ _ e';rw[e] at q;cases q;exact⟨c,e',cellUp _ _ z⟩
  ·obtain⟨v,z⟩:=I3.cell y c (c1 _ _ e);exact⟨v,cellUp _ _ z⟩
  ·have z:=congrArg List.length hix;simp only[cA] at z;show (List.replicate xs.length none++_:St).length=(xs++fs).length;rw[oA,oA,rB,cA,z]
 have back:∀{xe σ' H' s'},kC (DC X scope cl e3.heap.objs.size (xs++fs) e3 H3 fp xe) [] σ' H' s'->kC X pins σ H' s':=λ{xe σ' H' s'} J=>
  I3.call' (s':=s') (ch:=fp) J.os J.base J.hok J.bare λb hb=>⟨(f3 b hb).2.2.2.1,(f3 b hb).2.1,(f3 b hb).2.2.2.2.1,(f3 b hb).2.2.2.2.2⟩
 have stat:∀{xe} {H':Hp},(∀b∈fp,H' b=none)->∀b∈fp,XD (DC X scope cl e3.heap.objs.size (xs++fs) e3 H3 fp xe) [] H' b:=λ{xe H'} hn b hb=>
  ⟨hn b hb,LA (KA (live b hb) (by rw[sz3];exact Nat.le_succ _)),nofs b hb,.inl hb,λy c e=>(f3 b hb).2.2.2.2.1 y c (c1 _ _ e),λp hp=>absurd (show p∈([]:List (Addr×Obj)) from hp) (by simp)⟩
 have loop:∀s4:Shared,s4={e3 with heap:=h₁,toks:=e3.toks+([]:List (Str×Value)).length}->
   codeAny (model X.prog X.w) X.A (.compLoop (.ListComp elt [⟨tg,iter,ifs,0⟩] scope pos) 0 (.ref it) (.ref s2.heap.objs.size) (compEnvC scope cl e3.heap.objs.size X.env)) (RR (.ref s2.heap.objs.size) e3.heap.objs.size) s4:=by
  rintro s4 rfl
  let xe:=notedBy (model X.prog X.w) X.A (compEnvC scope cl e3.heap.objs.size X.env) λe s'=>RR (.ref s2.heap.objs.size) e3.heap.objs.size (.error e) s'
  refine x5 (λn s'=>∃i ys σ' H',kC (DC X scope cl e3.heap.objs.size (xs++fs) e3 H3 fp xe) [] σ' H' s'/\tn i s'.heap/\(∀b∈fp,H' b=none)/\W i n ys σ' H') ?_ m0 ⟨0,[],_,_,J0 xe,hst1,λb hb=>(f3 b hb).1,w0⟩;rintro n s5 ⟨i,ys,σ5,H5,J5,st5,fr5,w5⟩;rcases turn i n ys σ5 H5 w5 with ⟨stop,qn⟩|⟨go,N,hN,step⟩
  ·refine KC (T.done (DC X scope cl e3.heap.objs.size (xs++fs) e3 H3 fp xe) rfl rfl rfl hc i [] s5 σ5 H5 xe J5 (stat fr5) st5 stop) λr s6 zz=>?_;obtain⟨hr,J6⟩:=zz;subst hr;obtain⟨m,hn,_⟩:=J6.loc;exact fin _ _ H5 s6 (back J6) qn ⟨m,hn⟩ ⟨J6.free,C0.2⟩
  ·refine KC (T.item (DC X scope cl e3.heap.objs.size (xs++fs) e3 H3 fp xe) rfl rfl rfl hc i [] s5 σ5 H5 xe J5 (stat fr5) st5 go) λr s6 zz=>?_;obtain⟨u,hr,h6⟩:=zz;subst hr;refine KC h6 λ_ s7 zz=>?_;obtain⟨y,H7,J7,r7,y7,st7,fr7⟩:=zz;have J7':=J7.pinned (stat fr7) (T.obj _ _ st7);refine KC (hg _ _ _ xe _ s7 σ5 H7 y u _ J7' r7 (step y H7 y7)) λ_ s8 zz=>?_;obtain⟨σ8,H8,J8,q8⟩:=zz;refine KC (hf _ _ _ xe _ s8 σ8 H8 _ J8 q8) λok s8' zz=>?_;obtain⟨H8',J8',q8'⟩:=zz;cases ok with
   |false=>
    obtain⟨m',hm',w9⟩:=hN _ _ _ (by simpa using q8');refine⟨m',hm',i+1,ys,σ8,_,J8'.unpinned,T.keep _ _ _ st7 λb hb o e=>(J8'.pin (b,o) (eA _ (eA _ (dI hb e)))).1,λb hb=>?_,w9⟩;obtain⟨o,e,d⟩:=T.obj _ _ st7 b hb;exact (J8'.pin (b,o) (eA _ (eA _ (dI hb e)))).2.1
   |true=>
   rw[iA rfl] at q8' ⊢;refine KC (he _ _ _ xe _ s8' σ8 H8' _ J8' q8') λuv s9 zz=>?_;obtain⟨v,H9,J9,r9,hD9,hl9,n9⟩:=zz;obtain⟨m',hm',w9⟩:=hN _ _ _ n9;refine KC (IN (X:=DC X scope cl e3.heap.objs.size (xs++fs) e3 H3 fp xe) _ s9 σ8 H9 (.ref s2.heap.objs.size) [v] _ [uv] (λο H'=>H'=jC H9 s2.heap.objs.size (.lst (ys++[v]))) J9 rfl (.cons r9 .nil) ⟨_,ys,v,rfl,rfl,hD9,hl9,rfl⟩) λ_ s10 zz=>?_;obtain⟨_,H10,J10,_,eH⟩:=zz;subst eH;refine⟨m',hm',i+1,ys++[v],σ8,_,J10.unpinned,T.keep _ _ _ st7 λb hb o e=>(J10.pin (b,o) (eA _ (eA _ (dI hb e)))).1,λb hb=>?_,w9⟩;obtain⟨o,e,d⟩:=T.obj _ _ st7 b hb;exact (J10.pin (b,o) (eA _ (eA _ (dI hb e)))).2.1
 subst he3;exact codeAny_compStart_list (loop _ rfl) (T.self X.A 0 _ _ _ hst1 (loop _ rfl))
theorem we {tg iter elt:Expr} {ifs:List Expr} {scope:Scope} {pos:Pos} {x:Str} {xs fs:List Str} {ix:List Nat} {wi:TI} {g:TG} {tt:TT} {te:TE} (hc:X.calm=true) (hi:PI X tg iter wi) (hk:ME scope X.env x fs=true) (hix:ix.map (X.N[·]?)=fs.map some)
  (hg:∀cl C s₀ H₀ fp xe,PG (DC X scope cl C (xs++fs) s₀ H₀ fp xe) tg g) (hf:∀cl C s₀ H₀ fp xe,PF (DC X scope cl C (xs++fs) s₀ H₀ fp xe) ifs tt) (he:∀cl C s₀ H₀ fp xe,PE (DC X scope cl C (xs++fs) s₀ H₀ fp xe) elt te) (hs:∀x,foldedSetIterable iter X.env x=pure x:=by intro _;rfl):
  PE X (.ListComp elt [⟨tg,iter,ifs,0⟩] scope pos) (JH wi xs.length ix g tt te .mk):=by
 intro pins s σ H Q I h;have S:=gE.of hk;obtain⟨cl,hcl,c1,c2⟩:=S.clos I;rw[eval_ListComp];refine wpAny_comprehension_free (use:=none) rfl hs hcl S.kind S.own (KC (hi pins s σ H _ I h) λv s1 h1=>KC h1 λitv s2 h2=>?_);obtain⟨it,fp,tn,J,H2,e,I2,T,st2,f2,q⟩:=h2;subst e;refine ue (xs:=xs) (RR:=λacc C=>compPost (model X.prog X.w) X.A X.xe none (EP X pins σ Q) acc C) I2 T st2 f2 hc S c1 c2 hix (λC s₀ H₀ xe=>hg cl C s₀ H₀ fp xe) (λC s₀ H₀ xe=>hf cl C s₀ H₀ fp xe) (λC s₀ H₀ xe=>he cl C s₀ H₀ fp xe) q λD C H' s' I' q' ⟨m,hn⟩ ⟨f0,f1,_,f3,f4,f5⟩=>?_;exact⟨m,hn,λh' hs'=>⟨.ref D,H',I'.turned (t':=s'.toks) (λb o hb e=>(hs'.2 b hb).trans e) f0 f1 f3 f4 f5,rfl,q'⟩⟩
end
theorem ye {X:Cx} {K:PySem.W.Frag} {es:List Expr} {k:Nat} {pos:Pos} {t:TGs} {n:Nat} (h:X.K=K) (hc:X.calm=true) (hs:lN X es t) (hn:(assignEach es X.env).length=n:=by rfl) (hst:(assignEach es X.env).findIdx? (·.1)=none:=by rfl):PG X (.Tuple es k pos) (AK K n t):=h ▸ X1 hc hs hn hst
end L2
namespace L2
open PySem PySem.Spec PyProof.Rows
def KH (v d:Addr):HO:=.ext λh=>h.IsValuesView v d
def JJ (td:TE):TE:=λσ H Q=>td σ H λx H1=>∃a kvs,x=.ref a/\H1 a=some (.dK kvs)/\∀v,H1 v=none->Q (.ref v) (jC H1 v (KH v a))
theorem ze {X:Cx} {o:Expr} {td:TE} {apos cpos:Pos} (ho:PE X o td) (hbase:attributeBase o "values" X.env (eval o X.env)=eval o X.env:=by rfl) (hline:(apos.endLine == cpos.line)=true:=by rfl):PE X (.Call (.Attribute o "values" apos) [] [] cpos) (JJ td):=by
 intro pins s σ H Q I h;refine wpAny_Call_method0_late hbase hline (KC (ho pins s σ H _ I h) λu s1 zz=>?_);obtain⟨x,H1,I1,rx,a,kvs,ex,hd,q⟩:=zz;subst ex;obtain rfl:u=Value.ref a:=rx;obtain⟨t1,t2,_⟩:=ON I1 (.inl ⟨kvs,.inl hd⟩);obtain⟨_,nd,vs,_,dd⟩:=jH I1.hok (.inl hd);refine⟨"dict","dict.values",PySem.F.plainAttrs_dict,PySem.F.slot_dict_values,PySem.F.type_dict_values,t1,t2,nB rfl (PySem.evalArgs_none ?_)⟩;refine call_meetsIn PySem.F.slot_dict_values dd.typeIs PySem.F.entry_dict_values (PySem.F.args_dict_values_1 _) (meets_dict_values (HC X.prog X.w) a nd) ⟨⟨vs,dd⟩,?_⟩;refine⟨.ref s1.heap.objs.size,_,I1.laid (t':=s1.toks) (λb u e=>uA _ e) (kA _) (o:=KH s1.heap.objs.size a) ⟨⟨_,FA _ rfl,rfl,rfl⟩,⟨_,FA _ rfl⟩,λh1 h2 ⟨o,e,c,d⟩ k=>⟨o,k o e,c,d⟩⟩,rfl,q _ (I1.hok.fresh (kA _))⟩
def DR (a:Addr) (o:Obj) (kvs:List (Key×V)):It:=
 ⟨λi H=>H a=some (.frz o (.dK kvs))/\i < kvs.length,λi H x H'=>H'=H/\∃k,kvs[i]?=some (k,x),λi H=>H a=some (.frz o (.dK kvs))/\kvs.length<=i⟩
theorem Oe {P:Program} {w:World} {K:PySem.W.Frag} {tg:Expr} (a it:Addr) (o:Obj) (kvs:List (Key×V)) (ep:Nat) {es} (he:o.data=.dict es ep):KF P w K tg (DR a o kvs) [it] it (λi h=>h.IsValIter it a i kvs.length ep) where
 mem:=by simp
 obj:=λi h st b hb=>by
  have e:b=it:=by simpa using hb
  subst e;obtain⟨o,e,c,d⟩:=st;exact⟨o,e,λv z=>by rw[d] at z;cases z⟩
 keep:=λi h h' st k=>st.at λo e=>k it (by simp) o e
 item:=by
  intro X hP hw hK hc i pins s σ H E I hf st hg;subst hP hw hK;obtain⟨hg,hi⟩:=hg;obtain⟨vs,rel,dat,_⟩:=AR I hg he;obtain⟨f0,f1,f2,f3,f4,f5⟩:=hf it (by simp);have hl:=rel.length;have lO:i < vs.length:=by rw[<-hl];exact hi
  obtain⟨⟨k,x⟩,hx⟩:∃p,vs[i]?=some p:=⟨_,GA lO⟩
  obtain⟨v,hv,rv⟩:=BJ rel i k x hx;rw[hl] at st;refine wpAny_pyNext_values_item st dat hx λh' st' sb=>?_;have I1:kC X pins σ H {s with heap:=h'}:=I.turned (t':=s.toks) (λb o hb e=>(sb.2 b hb).trans e) f0 f1 f3 f4 f5;obtain⟨ob,e,c,d⟩:=id st';rw[<-hl] at st';exact⟨x,rfl,LP (s:={s with heap:=h'}) e c d (by decide) ⟨v,H,I1,rv,⟨rfl,k,hv⟩,st',λb hb=>(hf b hb).1⟩⟩
 done:=by
  intro X hP hw hK hc i pins s σ H E I hf st hg;subst hP hw hK;obtain⟨hg,hi⟩:=hg;obtain⟨vs,rel,dat,_⟩:=AR I hg he;obtain⟨f0,f1,f2,f3,f4,f5⟩:=hf it (by simp);have hl:=rel.length;rw[hl] at st;exact wpAny_pyNext_values_end (I.ok.hd hc) st dat (List.getElem?_eq_none_iff.mpr (by rw[<-hl];exact hi)) λh' eb=>⟨rfl,I.turned (t':=s.toks) (λb o hb e=>eb b o hb e) f0 f1 f3 f4 f5⟩
 self:=λο ο ο ο ο st h=>wpAny_pyIter_valiter st h
def KJ (tl:TE):TI:=λσ H R=>tl σ H λx H1=>∃v a kvs,x=.ref v/\H1 v=some (KH v a)/\H1 a=some (.dK kvs)/\∀o,R (DR a o kvs) (jC H1 a (.frz o (.dK kvs)))
theorem Pe {X:Cx} {tg l:Expr} {tl:TE} (hl:PE X l tl):PI X tg l (KJ tl):=by
 intro pins s σ H R I h;refine KC (hl pins s σ H _ I h) λv s1 zz=>?_;obtain⟨x,H1,I1,r1,q1⟩:=zz;obtain⟨vw,a,kvs,e,hv,hq,q⟩:=q1;subst e;cases r1;obtain⟨o,ho,I2⟩:=I1.freeze hq;obtain⟨_,_,vs,rel,o',es,ep,ho',c,d,r⟩:=I1.hok a _ hq;rw[ho] at ho';cases ho';obtain⟨vs,rel,dat,hd⟩:=AR I2 IC d;have hvw:s1.heap.IsValuesView vw a:=(I1.hok vw _ hv).1;refine wpAny_pyIter_values hvw dat ?_;have hlen:kvs.length=vs.length:=rel.length;have hfr:jC H1 a (.frz o (.dK kvs)) s1.heap.objs.size=none:=I2.hok.fresh (kA _);refine⟨s1.heap.objs.size,[s1.heap.objs.size],_,_,jC H1 a (.frz o (.dK kvs)),rfl,I2.kept (t':=s1.toks) λb o e=>uA _ e,Oe a _ o kvs ep d,⟨_,FA _ rfl,rfl,by rw[hlen];rfl⟩,λb hb=>?_,q o⟩;have e:b=s1.heap.objs.size:=by simpa using hb
 subst e;exact I2.fpOk (kA _) hfr
end L2
namespace L2
open PySem PySem.Spec PyProof.Rows
end L2
namespace L2
open PySem PySem.Spec PyProof.Rows
section
variable {prog:Program} {w:World} {A:Around} {E:Value->Shared->Prop} {s:Shared}
end
end L2
namespace L2
open PySem PySem.Spec PyProof.Rows
def SG (i:Nat):TE:=λσ H Q=>match σ[i]? with
 |some (some v)=>Q v H
 |_=>False
set_option tactic.hygienic true in
theorem Qe {i:Nat} {σ:St} {H:Hp} {Q:VK} (h:SG i σ H Q):xI i σ H Q:=by
 unfold SG at h
 split at h
 ·rename_i v e;exact⟨v,e,h⟩
 ·exact h.elim
theorem eC {X:Cx} (i:Nat) {x:Str} {pos:Pos} (hN:X.N[i]?=some x:=by rfl) (hv:HP X.env.scope x:=by first|exact Or.inl rfl|exact Or.inr (Or.inl rfl)|exact Or.inr (Or.inr rfl)) (hd:(x == ("__debug__":Str))=false:=by decide)
 (hcd:(x == ("__classdict__":Str))=false:=by decide):PE X (.Name x pos) (SG i):=λpins s σ H Q I h=>S1 hN hv hd hcd pins s σ H Q I (Qe h)
theorem jL {g:Int->Int->V} {i j:Int} {H:Hp} {Q:VK}:sH g (.int i) (.int j) H Q=Q (g i j) H:=propext ⟨λ⟨_,_,e1,e2,h⟩=>by cases e1;cases e2;exact h,λh=>⟨_,_,rfl,rfl,h⟩⟩
theorem YN {C:Int->Int->Prop} {g:Int->Int->V} {i j:Int} {H:Hp} {Q:VK}:rI C g (.int i) (.int j) H Q=(C i j/\Q (g i j) H):=propext ⟨λ⟨_,_,e1,e2,h⟩=>by cases e1;cases e2;exact h,λh=>⟨_,_,rfl,rfl,h⟩⟩
theorem kL {c:Int} {P:Int->Prop}:(∃i,V.int c=V.int i/\P i)=P c:=propext ⟨λ⟨_,e,h⟩=>by cases e;exact h,λh=>⟨_,rfl,h⟩⟩
theorem ZN {c:Bool} {P:Bool->Prop}:(∃i,V.bl c=V.bl i/\P i)=P c:=propext ⟨λ⟨_,e,h⟩=>by cases e;exact h,λh=>⟨_,rfl,h⟩⟩
theorem lL {c:Addr} {P:Addr->Prop}:(∃i,V.ref c=V.ref i/\P i)=P c:=propext ⟨λ⟨_,e,h⟩=>by cases e;exact h,λh=>⟨_,rfl,h⟩⟩
end L2
namespace L2
open PySem PySem.Spec PyProof.Rows
section
open PySem.Builtin PySem.Builtin.Str
end
end L2
namespace L2
open PySem PySem.Spec PyProof.Rows
structure UG (k:Nat) (A:Around):Prop where
 dp:A.depth+3 * k+5 < recursionLimit
 un:A.units+16 * k+200 < cLine
theorem vD.h {k:Nat} {A:Around} (r:vD k A):UG k A:=⟨r.dp,r.un⟩
theorem UG.deeper {k:Nat} {A:Around} (r:UG (k+1) A) (env:Env):UG k (A.deeper env):=
 ⟨by have:=r.dp;show A.depth+1+3 * k+5 < _;omega,by have:=r.un;show A.units+3+16 * k+200 < _;omega⟩
def eO (P:Program) (w:World) (K:PySem.W.Frag) (mg:Str->Option Value) (base:Heap) (N:List Str) (qual:Str) (scope:Scope) (f:Addr) (cd:Value) (A:Around) (outer:List Env) (s:Shared) (H:Hp) (E:XK):Cx:=
 {SD (iG P w) P w K mg base N qual scope f cd A outer s H E with calm:=false}
theorem Ve {P:Program} {w:World} {K:PySem.W.Frag} {mg:Str->Option Value} {base:Heap} {N:List Str} {qual:Str} {scope:Scope} {f:Addr} {cd:Value} {A:Around} {outer:List Env} {s:Shared} {H:Hp} {E:XK}:(eO P w K mg base N qual scope f cd A outer s H E).K=K:=rfl
end L2
namespace L2
open PySem PySem.Spec PyProof.Rows
def LH (K:PySem.W.Frag) (fd:FuncData) (ps ks:List Str):Prop:=∀(s:Shared) (us:List Value) (a b:Value),K.In s.heap->us.length+2=ps.length->BindsTo s fd ⟨us,ks.zip [a,b]⟩ (ps.zip (us++[b,a]))
def LJ (K:PySem.W.Frag) (C:Addr) (m qual:Str) (st:Stmt) (ps ks:List Str):Prop:=∃f fd,tG K C m f/\ZG K m qual st f fd/\LH K fd ps ks
def nL (P:Program) (w:World) (K:PySem.W.Frag) (mg:Str->Option Value) (base:Heap) (C:Addr) (m:Str) (k:Nat) (ps ks:List Str) (sp:Sp):Prop:=
 ∃f fd,tG K C m f/\LH K fd ps ks/\BE P w K mg base (iG P w) k f fd ps sp
theorem LJ.have {P:Program} {w:World} {K:PySem.W.Frag} {mg:Str->Option Value} {base:Heap} {C:Addr} {m qual:Str} {st:Stmt} {N ps ks:List Str} {k:Nat} {sp:Sp} (R:LJ K C m qual st ps ks) (S:fC N ps (cC st)) (len:∀vs H Q E,sp vs H Q E->vs.length=ps.length)
  (hbody:eF P w K mg base qual st N k sp):nL P w K mg base C m (k+1) ps ks sp:=
 let ⟨f,fd,hm,F,hb⟩:=R
 ⟨f,fd,hm,hb,F.okE S len hbody⟩
end L2
namespace L2
open PySem PySem.Spec PyProof.Rows
end L2
namespace L2
open PySem PySem.Spec PyProof.Rows
theorem We {X:Cx}:QD X (.type "dict") (λxs H Q=>∃p kvs,xs=[.ref p]/\Rd H p (.dK kvs)/\∀l,H l=none->Q (.ref l) (jC H l (.dK kvs))):=by
 intro pins s σ H xs us Q I r h;obtain⟨p,kvs,rfl,hp,q⟩:=h;obtain⟨u,rfl,ru⟩:=IE r;cases ru;exact Vc I hp λl s' hl I'=>⟨.ref l,_,I',rfl,q l hl⟩
theorem Xe {a:Addr} {o:Obj} {kvs:List (Key×V)} {g:TG} {tb:TS} {h:jG g tb} {D:eE} {σ:St} {H:Hp} (Pv:Nat->St->Hp->Prop) (h0:Pv 0 σ H) (hl:∀i σ H,i<=kvs.length->Pv i σ H->H a=some (.frz o (.dK kvs)))
  (hs:∀i k v σ H,kvs[i]?=some (k,v)->Pv i σ H->g v σ H λσ2 H2=>tb {D with nx:=Pv (i+1),ct:=Pv (i+1),bk:=D.nx} σ2 H2) (hd:∀σ H,Pv kvs.length σ H->D.nx σ H):YG g tb h (DR a o kvs) D σ H:=by
 refine⟨λi m σ H=>i+m=kvs.length/\Pv i σ H,⟨kvs.length,Nat.zero_add _,h0⟩,λi m σ H ⟨e,p⟩=>?_⟩;have hq:=hl i σ H ⋯ p;by_cases hi:i < kvs.length
 ·refine .inr ⟨⟨hq,hi⟩,Pv (i+1),λσ H q=>⟨m - 1,⋯,⋯,q⟩,?_⟩;rintro y H' ⟨rfl,k,hk⟩;exact hs i k y σ _ hk p
 ·have e':i=kvs.length:=⋯;subst e';exact .inl ⟨⟨hq,kA _⟩,hd σ H p⟩
end L2
namespace L2
open PySem PySem.Spec PyProof.Rows
section
variable {prog:Program} {w:World} {A:Around} {E:Value->Shared->Prop} {s:Shared}
end
section
variable {X:Cx}
end
end L2
namespace L2
open PySem PySem.Spec PyProof.Rows
section
variable {prog:Program} {w:World} {A:Around} {E:Value->Shared->Prop} {s:Shared}
end
section
variable {X:Cx}
end
end L2
namespace L2
open PySem PySem.Spec PyProof.Rows
section
variable {X:Cx} {pins:List (Addr×Obj)} {σ:List (Option V)} {H:Hp} {s:Shared} {a:Addr}
theorem kC.freezeT {kvs:List (List Key×V)} (I:kC X pins σ H s) (e:H a=some (.dT kvs)):∃o,s.heap.get? a=some o/\kC X pins σ (jC H a (.frz o (.dT kvs))) s:=by
 obtain⟨z,hd,xs,rel,o,es,ep,ho,r⟩:=JN I.hok e;have st:MC X.prog X.w (jC H a (.frz o (.dT kvs))) s.heap a (.dT kvs):=(I.hok a _ e).stay (λο ο ο q=>q) (λc q=>by rw[vC (λz=>by rw[z,e] at q;cases q)];exact q) (λc xs q=>by rw[vC (λz=>by rw[z,e] at q;cases q)];exact q);refine⟨o,ho,I.rewrite e (λο z=>by cases z) (λο z=>by cases z) (λw hw h=>?_) ⟨ho,st⟩⟩;rcases I.still hw h with ⟨_,_,q⟩|⟨_,q⟩|⟨_,q⟩<;>(rw[e] at q;cases q)
theorem kC.thawT {kvs:List (List Key×V)} {o:Obj} (I:kC X pins σ H s) (e:H a=some (.frz o (.dT kvs))) (h0:∀o u,X.H₀ a≠some (.frz o u)):kC X pins σ (jC H a (.dT kvs)) s:=by
 have ok:MC X.prog X.w H s.heap a (.dT kvs):=(I.hok a _ e).2;have st:MC X.prog X.w (jC H a (.dT kvs)) s.heap a (.dT kvs):=ok.stay (λο ο ο q=>q) (λc q=>by rw[vC (λz=>by rw[z,e] at q;cases q)];exact q) (λc xs q=>by rw[vC (λz=>by rw[z,e] at q;cases q)];exact q);refine I.rewrite e (λο z=>by cases z) (λο z=>by cases z) (λw hw h=>?_) st;rcases h with ⟨_,_,rfl⟩|h
 ·exact h0 _ _ hw
 ·rcases I.still hw (.inr h) with ⟨o',z',q⟩|⟨_,q⟩|⟨_,q⟩
  ·rcases h with ⟨xs,rfl⟩|⟨ps,rfl⟩
   ·have:=I.base.tups a xs hw;rw[e] at this;cases this
   ·obtain⟨m,this⟩:=I.base.tbls a ps hw;rw[e] at this;cases this
  ·rw[e] at q;cases q
  ·rw[e] at q;cases q
end
def mE (a:Addr) (H:Hp):Hp:=match H a with
 |some (.frz _ (.dT kvs))=>jC H a (.dT kvs)
 |_=>H
theorem GR {a:Addr} {H:Hp} {o:Obj} {kvs:List (List Key×V)} (h:H a=some (.frz o (.dT kvs))):mE a H=jC H a (.dT kvs):=by unfold mE;rw[h]
set_option tactic.hygienic true in
theorem kC.thawedT {X:Cx} {pins:List (Addr×Obj)} {σ:List (Option V)} {H:Hp} {s:Shared} {a:Addr} (I:kC X pins σ H s) (h0:∀o u,X.H₀ a≠some (.frz o u)):kC X pins σ (mE a H) s:=by
 unfold mE
 split
 ·rename_i h;exact I.thawT h h0
 ·exact I
def oF (a:Addr) (D:eE):eE:={D with nx:=λσ H=>D.nx σ (mE a H),bk:=λσ H=>D.bk σ (mE a H),ct:=λσ H=>D.ct σ (mE a H),rt:=λv H=>D.rt v (mE a H)}
def pL (X:Cx) (t:TS):TS:=λD σ H=>∃a,(∀o u,X.H₀ a≠some (.frz o u))/\t (oF a D) σ H
theorem HR {X:Cx} {st:Stmt} {t:TS} (h:PS X st t):PS X st (pL X t):=by
 intro pins s σ H D I hh;obtain⟨a,h0,hh⟩:=hh;refine mB (h pins s σ H (oF a D) I hh) (λf s' q=>?_) λο ο e=>e;unfold SP at q ⊢;cases f with
 |next=>obtain⟨σ',H',I',q⟩:=q;exact⟨σ',_,I'.thawedT h0,q⟩
 |brk=>obtain⟨σ',H',I',q⟩:=q;exact⟨σ',_,I'.thawedT h0,q⟩
 |cont=>obtain⟨σ',H',I',q⟩:=q;exact⟨σ',_,I'.thawedT h0,q⟩
 |ret u=>obtain⟨v,σ',H',I',r,q⟩:=q;exact⟨v,σ',_,I'.thawedT h0,r,q⟩
def NI (a:Addr) (o:Obj) (kvs:List (List Key×V)):It:=
 ⟨λi H=>H a=some (.frz o (.dT kvs))/\i < kvs.length,λi H x H'=>H'=H/\∃k v b,kvs[i]?=some (k,v)/\x=.ref b/\H b=some (.tup (k.map kV)),λi H=>H a=some (.frz o (.dT kvs))/\i=kvs.length⟩
theorem MJ {H:Hp}:∀{kvs:List (List Key×V)} {ys:List (List Key×Addr×Value)},KT H kvs ys->∀(i:Nat) {y:List Key×Addr×Value},ys[i]?=some y->∃k v,kvs[i]?=some (k,v)/\H y.2.1=some (.tup (k.map kV))
 |_,_,.nil,i,y,h=>by simp at h
 |_,_,.cons (a:=p) r t,0,y,h=>by
  have h:=rA h;subst h;exact⟨p.1,p.2,rfl,r.2.1⟩
 |_,_,.cons r t,i+1,y,h=>MJ t i h
theorem IR {X:Cx} {pins:List (Addr×Obj)} {σ:List (Option V)} {H:Hp} {s:Shared} {a:Addr} {o:Obj} {kvs:List (List Key×V)} {ep:Nat} {es:Array DictEntry} (I:kC X pins σ H s) (e:H a=some (.frz o (.dT kvs))) (hd:o.data=.dict es ep):
  SE s.heap a es ep/\(a == sysModules)=false/\es.size=kvs.length/\∀i (h:i < es.size),∃k v b,kvs[i]?=some (k,v)/\es[i].key=.ref b/\H b=some (.tup (k.map kV)):=by
 have ho:=(I.hok a _ e).1;obtain⟨z,nd,ys,rel,o',es',ep',e0,ec,ed,he,_⟩:=HI I.hok (.inr ⟨o,e⟩);rw[ho] at e0;cases e0;rw[hd] at ed;cases ed;have hsz:=size_of_entries he;have hlen:=Paired.length rel;refine⟨⟨o,ho,ec,hd⟩,nd,⋯,λi hi=>?_⟩;have e3:=entry_at he i;rw[HB hi,GA ⋯] at e3;have e3:=rA e3;obtain⟨k,v,h1,h2⟩:=MJ rel i (GA (show i < ys.length by omega));exact⟨k,v,_,h1,by rw[e3];rfl,h2⟩
theorem Ye {P:Program} {w:World} {K:PySem.W.Frag} {tg:Expr} (a it:Addr) (o:Obj) (kvs:List (List Key×V)) (ep:Nat) {es:Array DictEntry} (he:o.data=.dict es ep):KF P w K tg (NI a o kvs) [it] it (λi h=>h.IsKeyIter it a i es.size ep) where
 mem:=by simp
 obj:=λi h st b hb=>by
  have e:b=it:=by simpa using hb
  subst e;obtain⟨o,e,c,d⟩:=st;exact⟨o,e,λv z=>by rw[d] at z;cases z⟩
 keep:=λi h h' st k=>st.at λo e=>k it (by simp) o e
 item:=by
  intro X hP hw hK hc i pins s σ H E I hf st hg;subst hP hw hK;obtain⟨hg,hi⟩:=hg;obtain⟨raw,_,hsz,hat⟩:=IR I hg he;obtain⟨f0,f1,f2,f3,f4,f5⟩:=hf it (by simp);have lO:i < es.size:=⋯;obtain⟨k,v,b,hk,hkey,hb⟩:=hat i lO;refine U5 st raw lO λh' st' sb=>?_;have I1:kC X pins σ H {s with heap:=h'}:=I.turned (t':=s.toks) (λb o hb e=>(sb.2 b hb).trans e) f0 f1 f3 f4 f5;obtain⟨ob,e,c,d⟩:=id st';exact⟨_,rfl,LP (s:={s with heap:=h'}) e c d (by decide) ⟨.ref b,H,I1,by rw[hkey];rfl,⟨rfl,k,v,b,hk,rfl,hb⟩,st',λb hb=>(hf b hb).1⟩⟩
 done:=by
  intro X hP hw hK hc i pins s σ H E I hf st hg;subst hP hw hK;obtain⟨hg,hi⟩:=hg;obtain⟨raw,_,hsz,hat⟩:=IR I hg he;obtain⟨f0,f1,f2,f3,f4,f5⟩:=hf it (by simp);obtain rfl:i=es.size:=⋯;exact V5 (I.ok.hd hc) st raw λh' eb=>⟨rfl,I.turned (t':=s.toks) (λb o hb e=>eb b o hb e) f0 f1 f3 f4 f5⟩
 self:=λο ο ο ο ο st h=>wpAny_pyIter_keyiter st h
def TF (tl:TE):TI:=λσ H R=>tl σ H λx H1=>∃a kvs,x=.ref a/\H1 a=some (.dT kvs)/\∀o,R (NI a o kvs) (jC H1 a (.frz o (.dT kvs)))
theorem JR {X:Cx} {tg l:Expr} {tl:TE} (hl:PE X l tl):PI X tg l (TF tl):=by
 intro pins s σ H R I h;refine KC (hl pins s σ H _ I h) λv s1 zz=>?_;obtain⟨x,H1,I1,r1,q1⟩:=zz;obtain⟨a,kvs,e,hq,q⟩:=q1;subst e;cases r1;obtain⟨o,ho,I2⟩:=I1.freezeT hq;obtain⟨_,_,vs,rel,o',es,ep,ho',c,d,r⟩:=JN I1.hok hq;rw[ho] at ho';cases ho';obtain⟨raw,hd,hsz,_⟩:=IR I2 IC d;refine T5 hd raw ?_;have hfr:jC H1 a (.frz o (.dT kvs)) s1.heap.objs.size=none:=I2.hok.fresh (kA _);refine⟨s1.heap.objs.size,[s1.heap.objs.size],_,_,jC H1 a (.frz o (.dT kvs)),rfl,I2.kept (t':=s1.toks) λb o e=>uA _ e,Ye a _ o kvs ep d,⟨_,FA _ rfl,rfl,rfl⟩,λb hb=>?_,q o⟩;have e:b=s1.heap.objs.size:=by simpa using hb
 subst e;exact I2.fpOk (kA _) hfr
theorem Ze {a:Addr} {o:Obj} {kvs:List (List Key×V)} {g:TG} {tb:TS} {h:jG g tb} {D:eE} {σ:St} {H:Hp} (Pv:Nat->St->Hp->Prop) (h0:Pv 0 σ H) (hl:∀i σ H,i<=kvs.length->Pv i σ H->H a=some (.frz o (.dT kvs)))
  (hs:∀i k v b σ H,kvs[i]?=some (k,v)->H b=some (.tup (k.map kV))->Pv i σ H->g (.ref b) σ H λσ2 H2=>tb {D with nx:=Pv (i+1),ct:=Pv (i+1),bk:=D.nx} σ2 H2) (hd:∀σ H,Pv kvs.length σ H->D.nx σ H):YG g tb h (NI a o kvs) D σ H:=by
 refine⟨λi m σ H=>i+m=kvs.length/\Pv i σ H,⟨kvs.length,Nat.zero_add _,h0⟩,λi m σ H ⟨e,p⟩=>?_⟩;have hq:=hl i σ H ⋯ p;by_cases hi:i < kvs.length
 ·refine .inr ⟨⟨hq,hi⟩,Pv (i+1),λσ H q=>⟨m - 1,⋯,⋯,q⟩,?_⟩;rintro y H' ⟨rfl,k,v,b,hk,rfl,hb⟩;exact hs i k v b σ _ hk hb p
 ·have e':i=kvs.length:=⋯;subst e';exact .inl ⟨⟨hq,rfl⟩,hd σ H p⟩
end L2
namespace L2
open PySem PySem.Spec PyProof.Rows
section
open PySem.W
def In (p:Array Nat) (n:Nat):Prop:=0 < n/\∀x∈p.toList,x < n
theorem In.at {p:Array Nat} {n:Nat} (h:In p n) (i:Nat):p.getD i 0 < n:=by
 rw[SB];cases e:p[i]? with
 |none=>exact h.1
 |some x=>exact h.2 x (JA (by rw[YB];exact e))
theorem In.perm {p q:Array Nat} {n:Nat} (h:In p n) (e:q.Perm p):In q n:=⟨h.1,λx hx=>h.2 x ((Array.perm_iff_toList_perm.mp e).mem_iff.mp hx)⟩
structure Od (lt:Nat->Nat->Bool) (n:Nat):Prop where
 tr:∀i j k,i < n->j < n->k < n->lt i j=true->lt j k=true->lt i k=true
 ir:∀i,i < n->lt i i=false
 to:∀i j,i < n->j < n->i≠j->lt i j=true\/lt j i=true
variable {lt:Nat->Nat->Bool} {n:Nat}
structure Pm (p:Array Nat) (n:Nat):Prop where
 sz:p.size=n
 lt:∀i,i < n->p.getD i 0 < n
 ne:∀i j,i < n->j < n->i≠j->p.getD i 0≠p.getD j 0
 pe:p.Perm (List.range n).toArray
def Up (lt:Nat->Nat->Bool) (p:Array Nat) (m:Nat):Prop:=∀i j,i < j->j < m->lt (p.getD i 0) (p.getD j 0)=true
def Dn (lt:Nat->Nat->Bool) (p:Array Nat) (m:Nat):Prop:=∀i j,i < j->j < m->lt (p.getD j 0) (p.getD i 0)=true
theorem Up.succ {p:Array Nat} {m:Nat} (o:Od lt n) (hp:Pm p n) (h:Up lt p m) (h1:1<=m) (hm:m < n) (c:lt (p.getD (m - 1) 0) (p.getD m 0)=true):Up lt p (m+1):=λi j hij hj=>by
 rcases (by omega:j < m\/j=m) with hj|rfl
 ·exact h i j hij hj
 ·rcases (by omega:i < j - 1\/i=j - 1) with hi|rfl
  ·exact o.tr _ _ _ (hp.lt _ ⋯) (hp.lt _ ⋯) (hp.lt _ hm) (h i (j - 1) hi ⋯) c
  ·exact c
theorem Dn.succ {p:Array Nat} {m:Nat} (o:Od lt n) (hp:Pm p n) (h:Dn lt p m) (h1:1<=m) (hm:m < n) (c:lt (p.getD m 0) (p.getD (m - 1) 0)=true):Dn lt p (m+1):=λi j hij hj=>by
 rcases (by omega:j < m\/j=m) with hj|rfl
 ·exact h i j hij hj
 ·rcases (by omega:i < j - 1\/i=j - 1) with hi|rfl
  ·exact o.tr _ _ _ (hp.lt _ hm) (hp.lt _ ⋯) (hp.lt _ ⋯) c (h i (j - 1) hi ⋯)
  ·exact c
theorem other {p:Array Nat} (o:Od lt n) (hp:Pm p n) {i j:Nat} (hi:i < n) (hj:j < n) (ne:i≠j) (c:lt (p.getD i 0) (p.getD j 0)=false):lt (p.getD j 0) (p.getD i 0)=true:=by
 rcases o.to _ _ (hp.lt i hi) (hp.lt j hj) (hp.ne i j hi hj ne) with h|h
 ·rw[h] at c;cases c
 ·exact h
end
end L2
namespace L2
open PySem PySem.Spec PyProof.Rows
section
variable {prog:Program} {w:World} {A:Around} {E:Value->Shared->Prop} {s:Shared}
end
end L2
namespace L2
open PySem PySem.Spec PyProof.Rows
end L2
namespace L2
open PySem PySem.Spec PyProof.Rows
section
variable {prog:Program} {w:World} {K:Type} [DecidableEq K] {knd:HeapKind prog w K} {A:Around} {E:Value->Shared->Prop} {s:Shared}
theorem af {d a:Addr} {xs:List (K×Addr×Value)} {k:K} {dflt:Value} {Q:Value->Shared->Prop} (hu:knd.room A) (hkey:knd.is s.heap k a) (hm:s.heap.DictOfH knd d xs) (hsz:xs.length<=sizeLine)
  (h1:∀p,atKey xs k=some p->Q p.2 {s with toks:=s.toks+knd.draws k})
  (h2:atKey xs k=none->∀h',h'.DictOfH knd d (storedH xs k a dflt)->Heap.SameBut d s.heap h'->Q dflt {s with heap:=h',toks:=s.toks+knd.draws k}):wpAny (model prog w) A (dictSetDefault d (.ref a) dflt) Q E s:=by
 obtain⟨o,es,ep,ho,hc,hd,he,his,hn⟩:=hm;unfold dictSetDefault
 try with_reducible refine wpAny_holding ?_
 refine jA (knd.pyHash hu hkey ?_);refine jA (wpAny_dictFind_heap (s:={s with toks:=s.toks+knd.draws k}) hu hkey ho hd he his hn (λhno=>?_) λj p hj=>?_)
 ·have hnot:k∉xs.map (·.1):=not_mem_keys_of_get hno;refine jA (wpAny_rule (jA (wpAny_updateDictKeys (hz:=by have e:=size_of_entries he;omega) (s:={s with toks:=s.toks+knd.draws k}) ho hd (EA (h2 (atKey_none_of_get hno) _ ⟨_,_,ep+1,Heap.get?_update_self _ ho (Obj.isFreed_of_dict (Obj.data_mapDictKeys hd _)),hc.mapDictKeys _,Obj.data_mapDictKeys hd _,?_,?_,?_⟩ (Heap.SameBut.update ..))))))
  ·rw[storedH_new (atKey_none_of_get hno)];simp[he,entryOfKey]
  ·rw[storedH_new (atKey_none_of_get hno)];intro x hx;rcases dA.mp hx with hx|hx
   ·exact knd.keeps (his x hx) ho hd (Heap.SameBut.update ..)
   ·simp only[aA] at hx;subst hx;exact knd.keeps hkey ho hd (Heap.SameBut.update ..)
  ·rw[storedH_new (atKey_none_of_get hno)];rw[gA,zA];refine⟨hn,by simp,?_⟩;intro x hx y hy;simp only[yA,BB,aA] at hy;subst hy;exact λe=>hnot (e ▸ hx)
 ·refine jA (wpAny_dictEntries (s:={s with toks:=s.toks+knd.draws k}) ho hd ?_);have ee:es[j]?=some (entryOfKey knd (k,p)):=by rw[entry_at he,hj];rfl
  rw[ee];exact jA (wpAny_rule (EA (h1 p (atKey_of_get hn hj))))
theorem bf {d a:Addr} {dflt:Value}:MeetsIn prog w (Builtin.«dict.setdefault» ⟨[.ref d,.ref a,dflt],[]⟩) (λA R s=>knd.room A.in1/\(d == sysModules)=false/\∃k xs,knd.is s.heap k a/\s.heap.DictOfH knd d xs/\xs.length<=sizeLine/\
   (∀p,atKey xs k=some p->R (.ok (.ret p.2)) {s with toks:=s.toks+knd.draws k})/\
   (atKey xs k=none->∀h',h'.DictOfH knd d (storedH xs k a dflt)->Heap.SameBut d s.heap h'->R (.ok (.ret dflt)) {s with heap:=h',toks:=s.toks+knd.draws k})):=
 .of_wp λA R s ⟨hu,hd,k,xs,hkey,hm,hsz,h1,h2⟩=>by
  unfold Builtin.«dict.setdefault»;refine jA ?_;unfold Builtin.Dict.keyAndDefault;refine jA (wpAny_notOrdered_dict hm.typeIs ?_);show wpAny _ _ (pure (d,Value.ref a,some dflt)) _ _ s;refine EA ?_;show wpAny _ _ (if (d == sysModules)=true then _ else (dictSetDefault d (.ref a) dflt >>= _)) _ _ s;rw[fA (by rw[hd];exact wA)];exact jA (af hu hkey hm hsz (λp hp=>EA ⟨p.2,rfl,h1 p hp⟩) λhn h' hm' hs'=>EA ⟨dflt,rfl,h2 hn h' hm' hs'⟩)
end
theorem cf {X:Cx} {pins:List (Addr×Obj)} {σ:St} {H:Hp} {s:Shared} {a b:Addr} {kvs:List (List Key×V)} {k:List Key} {A:Around} {E:Value->Shared->Prop} {r:Value} {z:V} {Q:Value->Shared->Prop} (hu:A.units+1 < cLine) (I:kC X pins σ H s) (e:H a=some (.dT kvs)) (eb:H b=some (.tup (k.map kV))) (rz:pC z r) (hl:kvs.length < sizeLine)
  (h1:∀v,gC kvs k=some v->∀w' s',kC X pins σ H s'->pC v w'->Q w' s')
  (h2:gC kvs k=none->∀s',kC X pins σ (jC H a (.dT (JC kvs k z))) s'->Q r s'):wpAny (model X.prog X.w) A (call (.builtin "dict.setdefault") [.ref a,.ref b,r]) Q E s:=by
 obtain⟨zz,hd,xs,rel,dd⟩:=JN I.hok e;have hz:xs.length<=sizeLine:=by rw[<-Paired.length rel];exact zz
 have hlp:(JC kvs k z).length<=sizeLine:=by have:=aR kvs k z;omega
 refine call_meetsIn PySem.F.slot_dict_setdefault dd.typeIs PySem.F.entry_dict_setdefault (PySem.F.args_dict_setdefault_3 _ _ _) (bf (knd:=tupleKind (HC X.prog X.w))) ⟨KB hu,hd,k,xs,wJ I.hok eb,dd,hz,λp hp=>?_,λhn h' dd' hs=>?_⟩
 ·have q:=rel.val k;rw[hp] at q;cases hv:gC kvs k with
  |none=>rw[hv] at q;exact q.elim
  |some v=>rw[hv] at q;exact h1 v hv _ _ (I.tok _) q
 ·have q:=rel.val k;rw[hn] at q;have hv:gC kvs k=none:=by
   cases hv:gC kvs k with
   |none=>rfl
   |some v=>rw[hv] at q;exact q.elim
  refine h2 hv _ ?_;obtain⟨q,es,ep,hq,g2,g3,g4,_,g5⟩:=dd';refine QP I (by rw[e];exact True.intro) hs ⟨q,hq⟩ ⟨hlp,hd,_,(rel.put k eb rz).keeps λc ys ec=>?_,q,es,ep,hq,g2,g3,g4,g5⟩;rw[vC (LC ec e (λz=>nomatch z))];exact ec
def UF (td ty tx:TE):TE:=λσ H Q=>td σ H λx H1=>∃a,x=.ref a/\FM H1 a/\ty σ H1 λy H2=>tx σ H2 λz H3=>∃kvs k b,H3 a=some (.dT kvs)/\y=.ref b/\H3 b=some (.tup (k.map kV))/\kvs.length < sizeLine/\
 (∀v,gC kvs k=some v->Q v H3)/\(gC kvs k=none->Q z (jC H3 a (.dT (JC kvs k z))))
theorem KR {X:Cx} {o e f:Expr} {apos cpos:Pos} {td ty tx:TE} (hu:X.A.units+1 < cLine) (ho:PE X o td) (he:PE X e ty) (hf:PE X f tx) (m:M2 X o "setdefault" apos e f cpos):PE X (.Call (.Attribute o "setdefault" apos) [e,f] [] cpos) (UF td ty tx):=by
 intro pins s σ H Q I h;refine wpAny_Call_method m.base m.few m.line PySem.F.plainAttrs_dict PySem.F.slot_dict_setdefault PySem.F.type_dict_setdefault (KC (ho pins s σ H _ I h) λu s1 zz=>?_);obtain⟨x,H1,I1,rx,a,ex,d,q1⟩:=zz;subst ex;obtain rfl:u=Value.ref a:=rx;obtain⟨t1,t2,_⟩:=ON I1 d;refine⟨t1,t2,?_⟩;rw[m.trees];refine nB rfl (MB (IB (KC (he pins s1 σ H1 _ I1 q1) λiv s2 ⟨y,H2,I2,ry,q2⟩=>
  IB (KC (hf pins s2 σ H2 _ I2 q2) λfv s3 ⟨z,H3,I3,rz,kvs,k,b,ea,ey,eb,hl,q3,q4⟩=>Calls.spliced_nil ?_))))
 subst ey;cases ry;exact cf hu I3 ea eb rz hl (λv hv w' s4 I4 rw'=>⟨v,_,I4,rw',q3 v hv⟩) λhn s4 I4=>⟨z,_,I4,rz,q4 hn⟩
theorem b6 {a:Addr} {o:Obj} {kvs:List (List Key×V)} {g:TG} {tt:TT} {te:TE} {h:CG g tt te} {σ0:St} {D:Addr} {Q:Hp->Prop} {H:Hp} (Pv:Nat->List V->St->Hp->Prop) (h0:Pv 0 [] σ0 (jC H D (.lst []))) (hl:∀i ys σ H,i<=kvs.length->Pv i ys σ H->H a=some (.frz o (.dT kvs)))
  (hs:∀i k x b ys σ H,kvs[i]?=some (k,x)->H b=some (.tup (k.map kV))->Pv i ys σ H->g (.ref b) σ H λσ2 H2=>tt σ2 H2 λc H2'=>if c=true then te σ2 H2' λv H3=>H3 D=some (.lst ys)/\ys.length < sizeLine/\Pv (i+1) (ys++[v]) σ2 (jC H3 D (.lst (ys++[v]))) else Pv (i+1) ys σ2 H2') (hd:∀ys σ H,Pv kvs.length ys σ H->Q H):
  DG g tt te h (NI a o kvs) σ0 D Q H:=by
 refine⟨λi m ys σ H=>i+m=kvs.length/\Pv i ys σ H,⟨kvs.length,Nat.zero_add _,h0⟩,λi m ys σ H ⟨e,p⟩=>?_⟩;have hq:=hl i ys σ H ⋯ p;by_cases hi:i < kvs.length
 ·refine .inr ⟨⟨hq,hi⟩,Pv (i+1),λys σ H q=>⟨m - 1,⋯,⋯,q⟩,?_⟩;rintro y H' ⟨rfl,k,v,b,hk,rfl,hb⟩;exact hs i k v b ys σ _ hk hb p
 ·have e':i=kvs.length:=⋯;subst e';exact .inl ⟨⟨hq,rfl⟩,hd ys σ H p⟩
end L2
namespace L2
open PySem PySem.Spec PyProof.Rows
end L2
namespace L2
open PySem PySem.Spec PyProof.Rows
end L2
namespace L2
open PySem PySem.Spec PyProof.Rows
section
variable {M:Model} {A:Around} {E:Value->Shared->Prop} {s:Shared} {env:Env}
end
section
variable {M:Model} {A:Around} {E:Value->Shared->Prop} {s:Shared} {env:Env}
end
section
variable {X:Cx}
end
end L2
namespace L2
open PySem PySem.Spec PyProof.Rows
section
variable {prog:Program} {w:World} {A:Around} {E:Value->Shared->Prop} {s:Shared}
end
section
variable {prog:Program} {w:World} {A:Around} {E:Value->Shared->Prop} {s:Shared}
end
section
variable {X:Cx}
end
end L2
namespace L2
open PySem PySem.Spec PyProof.Rows
def EG (a:Addr) (n:Nat):HO:=.ext λh=>∃o es ep t,h.get? a=some o/\o.ExactSet/\o.data=.set es ep t/\t.fits es.size=true/\es.size=n
def kG (ns:List Int):Nat:=(firstMet (λi=>ns.getD i 0) ns.length).length
theorem df {X:Cx} (hc:X.calm=true):QD X (.type "set") (λxs H Q=>∃(p:Addr) (ns:List Int),xs=[.ref p]/\QC X.K H p (ns.map V.int)/\ns.length < 4000/\∀l,H l=none->Q (.ref l) (jC H l (EG l (kG ns)))):=by
 intro pins s σ H xs us Q I r h;obtain⟨p,ns,rfl,hq,hl,q⟩:=h;obtain⟨u,rfl,rx⟩:=IE r;cases rx;obtain⟨its,r',pl,hz⟩:=I.list hq;have hi:=N5 r';have hn:its.length=ns.length:=by
  have:=r'.length;rw[cA] at this;exact this.symm
 have hsz:its.toArray.size=ns.length:=by simp[hn]
 have hfr:H s.heap.objs.size=none:=I.hok.fresh (kA _);refine call_set_list (I.ok.hd hc) pl.isList (by simpa using hi) (by rw[hsz];show ns.length+1 < 4096;omega) λh' tk hS hk=>?_;rw[hsz] at hS;obtain⟨o,es,ep,t,g1,g2,g3,_,_,_,g6,g7⟩:=hS;refine⟨.ref s.heap.objs.size,_,I.laid (t':=tk) (λb u e=>hk b u (BA e) e) (kA _) (o:=EG s.heap.objs.size (kG ns)) ⟨⟨o,es,ep,t,g1,g2,g3,g6,g7⟩,⟨o,g1⟩,λh1 h2 ⟨o,es,ep,t,a1,a2,a3,a4,a5⟩ k=>⟨o,es,ep,t,k o a1,a2,a3,a4,a5⟩⟩,rfl,q _ hfr⟩
theorem gf {X:Cx}:QD X (.builtin "len") (λxs H Q=>∃(a:Addr) (n:Nat),xs=[.ref a]/\H a=some (EG a n)/\n < 4096/\Q (.int n) H):=by
 intro pins s σ H xs us Q I r h;obtain⟨a,n,rfl,ha,hn,q⟩:=h;obtain⟨u,rfl,rx⟩:=IE r;cases rx;obtain⟨⟨o,es,ep,t,g1,g2,g3,g4,rfl⟩,_⟩:=(show MC X.prog X.w H s.heap a (EG a n) from I.hok a _ ha)
 exact call_len_set g1 g2 g3 g4 ⋯ ⟨.int es.size,H,I.tok _,⟨_,rfl⟩,q⟩
end L2
namespace L2
open PySem PySem.Spec PyProof.Rows
section
variable {K:PySem.W.Frag} {h:Heap} {mg:Str->Option Value} {x qual:Str} {st:Stmt} {ps:List Str} {C f:Addr} {oc:Value} {od an:Option Addr} {osl:Array (Option Value)} {kV doc pm cdv ct:Value}
def GF (K:PySem.W.Frag) (x:Str) (st:Stmt):Prop:=∃f fd,PySem.W.nsIn K mainGlobals x=some (some (.ref f))/\xG K x x st f fd
theorem GF.mk (a:PySem.W.nsIn K mainGlobals x=some (some (.ref f))) (l:K.lookup f=some ⟨oc,od,.func (PySem.W.fnOf x x (zC st) (xC st) (cC st) .none kV doc pm an cdv ct),osl⟩) (c:PySem.W.codeIn K cdv x=true) (k:PySem.W.keepIn K (.ref f)=true):GF K x st:=⟨_,_,a,fR l c k⟩
theorem GF.raw (g:GF K x st) (X:K.In h) (G:h.Ns mainGlobals mg) (b:∀(kV doc pm:Value) (an:Option Addr) (cdv ct:Value) (us:List Value),us.length=ps.length->bindArgs (PySem.W.fnOf x x (zC st) (xC st) (cC st) .none kV doc pm an cdv ct) ⟨us,[]⟩=pure (ps.zip us)):sF K mg x x st ps []:=
 let ⟨_,_,a,F⟩:=g
 ⟨_,_,_,PySem.W.mg_of X G a,F,F.binds b,.nil⟩
theorem GF.law (g:GF K x st) (X:K.In h) (G:h.Ns mainGlobals mg) {p:Str} (b:∀(kV doc pm:Value) (an:Option Addr) (cdv ct u:Value),bindArgs (PySem.W.fnOf x x (zC st) (xC st) (cC st) .none kV doc pm an cdv ct) ⟨[u],[]⟩=pure [(p,u)]):∃f fd,mg x=some (.ref f)/\xG K x x st f fd/\∀(s:Shared) (u:Value),BindsTo s fd ⟨[u],[]⟩ [(p,u)]:=by
 obtain⟨f,fd,a,F⟩:=g;refine⟨f,fd,PySem.W.mg_of X G a,F,λs u=>?_⟩;obtain⟨oc,od,kV,doc,pm,an,cdv,ct,osl,rfl,lk,hcd⟩:=F.ex;exact .of_eq (b ..)
def MF (K:PySem.W.Frag) (C:Addr) (x qual:Str) (st:Stmt):Prop:=∃f fd,tG K C x f/\xG K x qual st f fd
theorem MF.mk (a:PySem.W.findIn K (.ref C) x=some (some (.ref f))) (i:PySem.W.isFn K (.ref f)=true) (l:K.lookup f=some ⟨oc,od,.func (PySem.W.fnOf x qual (zC st) (xC st) (cC st) .none kV doc pm an cdv ct),osl⟩) (c:PySem.W.codeIn K cdv qual=true) (k:PySem.W.keepIn K (.ref f)=true):MF K C x qual st:=⟨_,_,⟨a,i,k⟩,fR l c k⟩
theorem MF.raw (g:MF K C x qual st) (b:∀(kV doc pm:Value) (an:Option Addr) (cdv ct:Value) (us:List Value),us.length=ps.length->bindArgs (PySem.W.fnOf x qual (zC st) (xC st) (cC st) .none kV doc pm an cdv ct) ⟨us,[]⟩=pure (ps.zip us)):TC K C x qual st ps []:=
 let ⟨_,_,a,F⟩:=g
 ⟨_,_,_,a,F,F.binds b,.nil⟩
def IF (K:PySem.W.Frag) (C:Addr) (qual:Str) (st:Stmt):Prop:=∃f fd,Mk K C f/\xG K "__init__" qual st f fd
theorem IF.mk (m:PySem.W.makesIn K C=true) (kc:PySem.W.keepIn K (.ref C)=true) (a:PySem.W.findIn K (.ref C) "__init__"=some (some (.ref f))) (i:PySem.W.isFn K (.ref f)=true) (l:K.lookup f=some ⟨oc,od,.func (PySem.W.fnOf "__init__" qual (zC st) (xC st) (cC st) .none kV doc pm an cdv ct),osl⟩) (c:PySem.W.codeIn K cdv qual=true) (k:PySem.W.keepIn K (.ref f)=true):IF K C qual st:=⟨_,_,⟨m,a,i,kc⟩,fR l c k⟩
theorem IF.raw (g:IF K C qual st) (X:K.In h) (G:h.Ns mainGlobals mg) (n:PySem.W.nsIn K mainGlobals x=some (some (.ref C))) (b:∀(kV doc pm:Value) (an:Option Addr) (cdv ct:Value) (us:List Value),us.length=ps.length->bindArgs (PySem.W.fnOf "__init__" qual (zC st) (xC st) (cC st) .none kV doc pm an cdv ct) ⟨us,[]⟩=pure (ps.zip us)):AG K mg x C qual st ps []:=
 let ⟨_,_,a,F⟩:=g
 ⟨_,_,_,PySem.W.mg_of X G n,a,F,F.binds b,.nil⟩
end
end L2
namespace L2
open PySem PySem.Spec PyProof.Rows
namespace ST
def eQ (m i:Nat):Nat:=(i * 5+1) % (m+1)
def fQ (m:Nat):Nat->Nat->List Nat
 |0,_=>[]
 |k+1,i=>i::fQ m k (eQ m i)
theorem LR:∀i,i < 8->∀j,j < 8->j∈fQ 7 8 i:=by decide
theorem gO:∀i,i < 32->∀j,j < 32->j∈fQ 31 32 i:=∅
def aH (m:Nat):Nat->Nat->Nat
 |0,i=>i
 |k+1,i=>aH m k (eQ m i)
theorem MR {m j:Nat}:∀{k i:Nat},j∈fQ m k i->∃n,n < k/\aH m n i=j
 |0,_,h=>by cases h
 |k+1,i,h=>by
  rcases vA.mp h with h|h
  ·exact⟨0,⋯,h.symm⟩
  ·obtain⟨n,h1,h2⟩:=MR h;exact⟨n+1,⋯,h2⟩
def Mk (m:Nat):Prop:=m=7\/m=31
theorem jf {m:Nat} (hm:Mk m) {i j:Nat} (hi:i<=m) (hj:j<=m):∃n,n<=m/\aH m n i=j:=by
 rcases hm with rfl|rfl
 ·obtain⟨n,h1,h2⟩:=MR (LR i ⋯ j ⋯);exact⟨n,⋯,h2⟩
 ·obtain⟨n,h1,h2⟩:=MR (gO i ⋯ j ⋯);exact⟨n,⋯,h2⟩
def lp (m:Nat):Nat->Nat×Nat->Nat×Nat
 |0,x=>x
 |k+1,x=>SetTable.leap m (lp m k x).1 (lp m k x).2
theorem iO {m:Nat} {x:Nat×Nat} (h:x.1<=m):∀k,(lp m k x).1<=m
 |0=>h
 |k+1=>by
  show (_ % (m+1))<=m;have:=Nat.mod_lt ((lp m k x).1 * 5+1+(lp m k x).2 / 32) (show 0 < m+1 by omega);omega
theorem d6 {m:Nat} {x:Nat×Nat}:∀k,(lp m k x).2=x.2 / 32 ^ k
 |0=>by show x.2=_;rw[Nat.pow_zero,Nat.div_one]
 |k+1=>by
  show (lp m k x).2 / 32=_;rw[d6 k,Nat.div_div_eq_div_mul,Nat.pow_succ]
theorem qL {m:Nat} {x:Nat×Nat} (hx:x.2 < 2 ^ 64) {k:Nat} (hk:13<=k):(lp m k x).2=0:=by
 rw[d6];apply Nat.div_eq_of_lt;have:(32:Nat) ^ 13<=32 ^ k:=Nat.pow_le_pow_right ⋯ hk;have e:(32:Nat) ^ 13=2 ^ 65:=by decide
 omega
theorem f6 {m:Nat}:∀{n i:Nat},aH m (n+1) i=eQ m (aH m n i)
 |0,_=>rfl
 |n+1,i=>f6 (n:=n) (i:=eQ m i)
theorem i6 {m:Nat} {x:Nat×Nat} (hx:x.2 < 2 ^ 64):∀n,(lp m (13+n) x).1=aH m n (lp m 13 x).1
 |0=>rfl
 |n+1=>by
  rw[f6,<-i6 hx n];show ((lp m (13+n) x).1 * 5+1+(lp m (13+n) x).2 / 32) % (m+1)=_;rw[qL hx ⋯]
  rfl
theorem rL {m:Nat} (hm:Mk m) {x:Nat×Nat} (h:x.1<=m) (hx:x.2 < 2 ^ 64) {j:Nat} (hj:j<=m):∃k,k<=13+m/\(lp m k x).1=j:=by
 obtain⟨n,h1,h2⟩:=jf hm (iO h 13) hj;exact⟨13+n,⋯,by rw[i6 hx];exact h2⟩
theorem lf (h:Int):SetTable.bits h < 2 ^ 64:=by unfold SetTable.bits;omega
def jO (t:SetTable) (x:Nat×Nat):SetTable.Probe:=⟨x.1,SetTable.runEnd t.mask x.1 - x.1,x.1,x.2,none⟩
theorem j6 {m:Nat} {x:Nat×Nat}:∀n,lp m (n+1) x=lp m n (SetTable.leap m x.1 x.2)
 |0=>rfl
 |n+1=>by
  show SetTable.leap m (lp m (n+1) x).1 (lp m (n+1) x).2=_;rw[j6 n]
  rfl
theorem k6 {m:Nat} {ow:Array (Option Nat)}:∀{n fuel:Nat} {x:Nat×Nat},n < fuel->ow.getD (lp m n x).1 (some 0)=none->∃j,SetTable.layClean.free m ow fuel x.1 x.2=some j/\ow.getD j (some 0)=none
 |n,fuel+1,x,hf,he=>by
  unfold SetTable.layClean.free;cases e:(List.range (SetTable.runEnd m x.1+1 - x.1)).find? λk=>(ow.getD (x.1+k) (some 0)).isNone with
  |some k=>
   have h1:=sB e;exact⟨_,rfl,Option.isNone_iff_eq_none.mp h1⟩
  |none=>
   dsimp only;cases n with
   |zero=>
    exfalso;have h1:=kB.mp e 0 (List.mem_range.mpr (by unfold SetTable.runEnd;split<;>omega));apply h1;rw[Nat.add_zero];exact Option.isNone_iff_eq_none.mpr he
   |succ n=>
    rw[j6] at he;exact k6 (x:=SetTable.leap m x.1 x.2) ⋯ he
structure Ow (m:Nat) (ow:Array (Option Nat)) (js:List Nat):Prop where
 sz:ow.size=m+1
 nd:js.Nodup
 le:∀j∈js,j<=m
 at_:∀j,j<=m->ow[j]?=some (if j∈js then some (js.idxOf j) else none)
theorem Ow.zero (m:Nat):Ow m (Array.replicate (m+1) none) []:=⟨by simp,.nil,(λj h=>by cases h),λj hj=>by
 rw[Array.getElem?_replicate,iA ⋯];rfl⟩
theorem Ow.next {m:Nat} (hm:Mk m) {ow:Array (Option Nat)} {js:List Nat} (h:Ow m ow js) (hl:js.length<=m) (hs:Int):
  ∃j,SetTable.layClean.free m ow (SetTable.turns m) (SetTable.bits hs % (m+1)) (SetTable.bits hs)=some j/\Ow m (ow.setIfInBounds j (some js.length)) (js++[j]):=by
 have hno:∃j,j<=m/\j∉js:=by
  apply Classical.byContradiction;intro hno;have sub:List.range (m+1) ⊆ js:=λj hj=>Classical.byContradiction λq=>hno ⟨j,by have:=List.mem_range.mp hj;omega,q⟩;have:=(List.nodup_range (n:=m+1)).length_le_of_subset sub;rw[ZB] at this;omega
 obtain⟨j0,hj0,hj1⟩:=hno;have h1:SetTable.bits hs % (m+1)<=m:=by
  have:=Nat.mod_lt (SetTable.bits hs) (show 0 < m+1 by omega);omega
 obtain⟨k,hk,e1⟩:=rL hm (x:=(SetTable.bits hs % (m+1),SetTable.bits hs)) h1 (lf hs) hj0;obtain⟨j,e2,e3⟩:=k6 (m:=m) (ow:=ow) (n:=k) (fuel:=SetTable.turns m) (x:=(SetTable.bits hs % (m+1),SetTable.bits hs)) (by unfold SetTable.turns;omega) (by
  rw[e1,SB,h.at_ j0 hj0,fA hj1];rfl)
 refine⟨j,e2,?_⟩;have hjm:j<=m:=by
  apply Classical.byContradiction;intro q;rw[SB,Array.getElem?_eq_none (by rw[h.sz];omega)] at e3;cases e3
 have hjn:j∉js:=λq=>by
  rw[SB,h.at_ j hjm,iA q] at e3;cases e3
 refine⟨by rw[Array.size_setIfInBounds];exact h.sz,?_,?_,λi hi=>?_⟩
 ·rw[zA];refine⟨h.nd,by simp,λa ha b hb e=>?_⟩;rw[aA.mp hb] at e;exact hjn (e ▸ ha)
 ·intro i hi;rcases dA.mp hi with q|q
  ·exact h.le i q
  ·rw[aA.mp q];exact hjm
 ·rw[Array.getElem?_setIfInBounds];by_cases q:j=i
  ·subst q;rw[iA rfl,iA (by rw[h.sz];omega),iA (eA _ (aA.mpr rfl)),List.idxOf_append,fA hjn];simp
  ·rw[fA q,h.at_ i hi];by_cases r:i∈js
   ·rw[iA r,iA (pA _ r),List.idxOf_append,iA r]
   ·rw[fA r,fA];intro z;rcases dA.mp z with z|z
    ·exact r z
    ·exact q (aA.mp z).symm
section
variable {prog:Program} {w:World} {A:Around} {E:Value->Shared->Prop} {s:Shared} {a:Addr} {o:Obj} {items:Array Value} {n:Nat} {Q:Bool->Shared->Prop}
end
section
variable {prog:Program} {w:World} {K:Type} [DecidableEq K] {knd:KeyKind prog w K} {A:Around} {E:Value->Shared->Prop} {s:Shared} {S a:Addr} {o:Obj} {es:Array (Int×Value)} {ep:Nat} {t:SetTable} {k:List K}
end
section
variable {prog:Program} {w:World} {K:Type} [DecidableEq K] {knd:KeyKind prog w K} {A:Around} {E:Value->Shared->Prop} {s:Shared} {S a:Addr} {k:List K} {ks:List (List K)}
def TB (knd:KeyKind prog w K) (h:Heap) (S:Addr) (ks:List (List K)):Prop:=∃o es ep t,h.get? S=some o/\o.ExactSet/\o.data=.set es ep t/\Mk t.mask/\t.dummies= #[]/\t.place.size=es.size/\es.size=ks.length/\(t.mask=7->es.size<=4)/\
 ∀e∈es.toList,∃k' b,k'∈ks/\e=(tupleKeyHash knd k',.ref b)/\IsTupleKey knd h k' b
end
section
variable {prog:Program} {w:World} {K:Type} [DecidableEq K] {knd:KeyKind prog w K} {A:Around} {R:Result->Shared->Prop} {I:Addr} {fp wr:List Addr} {G:Array GenState->Array GenState->Prop} {n:Nat} {P:Nat->Value->Prop} {St:Nat->Shared->Prop}
theorem sL {h h':Heap} {k:List K} {a:Addr} (x:IsTupleKey knd h k a) (hk:∀o,h.get? a=some o->h'.get? a=some o):IsTupleKey knd h' k a:=by
 obtain⟨o',items,n,ho',hc,hd',hi⟩:=x;exact⟨o',items,n,hk _ ho',hc,hd',hi⟩
theorem TB.keep {h h':Heap} {S:Addr} {ks:List (List K)} (hT:TB knd h S ks) (hS:∀o,h.get? S=some o->h'.get? S=some o) (hk:∀b k,IsTupleKey knd h k b->∀o,h.get? b=some o->h'.get? b=some o):TB knd h' S ks:=by
 obtain⟨o,es,ep,t,ho,h1,h2,h3,h4,h5,h6,h7,h8⟩:=hT;refine⟨o,es,ep,t,hS _ ho,h1,h2,h3,h4,h5,h6,h7,λe he=>?_⟩;obtain⟨k',b,a1,a2,a3⟩:=h8 e he;exact⟨k',b,a1,a2,sL a3 (hk b k' a3)⟩
end
section
variable {prog:Program} {w:World} {K:Type} [DecidableEq K] {knd:KeyKind prog w K} {A:Around} {E:Value->Shared->Prop} {s:Shared}
end
end ST
end L2
namespace L2
open PySem PySem.Spec PyProof.Rows
end L2
namespace L2
open PySem PySem.Spec PyProof.Rows
namespace TS
def Od (kd:SortKind) (Ok:Keyed->Prop) (rk:Keyed->Int) (M:Model) (A:Around) (E:Value->Shared->Prop) (s:Shared):Prop:=
 ∀(st:SortSt) (x y:Keyed) (Q:Option Bool->SortSt->Prop),kindOf st=kd->Ok x->Ok y->Q (some (decide (rk x < rk y))) st->wpS M A E s (lt' x y) Q st
def Kr (rk:Keyed->Int) (xs:Array Keyed) (i:Nat):Int:=match xs[i]? with
 |some p=>rk p
 |none=>0
theorem l6 {rk:Keyed->Int} {xs ys:Array Keyed} {i j:Nat} (h:xs[i]?=ys[j]?):Kr rk xs i=Kr rk ys j:=by unfold Kr;rw[h]
def gQ (rk:Keyed->Int) (xs:Array Keyed) (lo n:Nat):Prop:=∀i j,i<=j->j < n->Kr rk xs (lo+i)<=Kr rk xs (lo+j)
def HM (xs ys:Array Keyed) (lo n:Nat):Prop:=∀k,k < lo\/lo+n<=k->ys[k]?=xs[k]?
theorem HM.trans {xs ys zs:Array Keyed} {lo n:Nat} (h:HM xs ys lo n) (g:HM ys zs lo n):HM xs zs lo n:=λk hk=>(g k hk).trans (h k hk)
theorem gQ.out {rk:Keyed->Int} {xs ys:Array Keyed} {lo n lo' n':Nat} (h:gQ rk xs lo n) (o:HM xs ys lo' n') (d:lo+n<=lo'\/lo'+n'<=lo):gQ rk ys lo n:=λi j hij hj=>by
 rw[l6 (o (lo+i) ⋯),l6 (o (lo+j) ⋯)];exact h i j hij hj
structure Sb (a₀:Array Keyed) (kd:SortKind) (pd:Array (Nat×Nat×Nat)) (st:SortSt):Prop where
 perm:(arrOf st).Perm a₀
 kind:kindOf st=kd
 failed:failedOf st=none
 pend:pendingOf st=pd
theorem Sb.size {a₀:Array Keyed} {kd:SortKind} {pd:Array (Nat×Nat×Nat)} {st:SortSt} (h:Sb a₀ kd pd st):(arrOf st).size=a₀.size:=h.perm.size_eq
theorem Sb.set {a₀:Array Keyed} {kd:SortKind} {pd:Array (Nat×Nat×Nat)} {st:SortSt} (h:Sb a₀ kd pd st) {xs:Array Keyed} (hp:xs.Perm (arrOf st)):Sb a₀ kd pd (setArr st xs):=⟨hp.trans h.perm,h.kind,h.failed,h.pend⟩
def kO (Ok:Keyed->Prop) (a₀:Array Keyed):Prop:=∀p∈a₀.toList,Ok p
theorem Sb.at {Ok:Keyed->Prop} {a₀:Array Keyed} {kd:SortKind} {pd:Array (Nat×Nat×Nat)} {st:SortSt} (h:Sb a₀ kd pd st) (h0:kO Ok a₀) {i:Nat} (hi:i < a₀.size):∃p,(arrOf st)[i]?=some p/\Ok p:=by
 have hi':i < (arrOf st).size:=by rw[h.size];exact hi
 have hm:(arrOf st)[i]∈a₀.toList:=(Array.perm_iff_toList_perm.mp h.perm).mem_iff.mp (by simp);exact⟨_,getElem?_pos _ i hi',h0 _ hm⟩
section
variable {M:Model} {A:Around} {E:Value->Shared->Prop} {s:Shared} {a₀:Array Keyed} {kd:SortKind} {pd:Array (Nat×Nat×Nat)} {Ok:Keyed->Prop} {rk:Keyed->Int}
end
section
variable {M:Model} {A:Around} {E:Value->Shared->Prop} {s:Shared} {a₀:Array Keyed} {kd:SortKind} {pd:Array (Nat×Nat×Nat)} {Ok:Keyed->Prop} {rk:Keyed->Int}
end
def VG:Bool->Keyed->Array Keyed->Nat->Nat->Nat->StateT SortSt Sem (Option Nat):=sortPriv% PySem.Builtin.gallop
section
variable {M:Model} {A:Around} {E:Value->Shared->Prop} {s:Shared} {a₀:Array Keyed} {kd:SortKind} {pd:Array (Nat×Nat×Nat)} {Ok:Keyed->Prop} {rk:Keyed->Int}
end
def NR (g:Nat):StateT SortSt Sem Unit:=modify λs=>SortSt.mk' (kindOf s) (arrOf s) (pendingOf s) g (failedOf s)
noncomputable abbrev Up (rk:Keyed->Int) (l:List Keyed):Prop:=l.Pairwise λx y=>rk x<=rk y
section
variable {rk:Keyed->Int} {la lb ol:List Keyed} {ia ib:Nat} {x y:Keyed}
def NH (rk:Keyed->Int) (la lb:List Keyed) (r:Array Keyed):Prop:=r.toList.Perm (la++lb)/\Up rk r.toList
end
def Sk (st st':SortSt):Prop:=arrOf st'=arrOf st/\kindOf st'=kindOf st/\failedOf st'=failedOf st/\pendingOf st'=pendingOf st
theorem Sk.trans {s1 s2 s3:SortSt} (h:Sk s1 s2) (g:Sk s2 s3):Sk s1 s3:=⟨g.1.trans h.1,g.2.1.trans h.2.1,g.2.2.1.trans h.2.2.1,g.2.2.2.trans h.2.2.2⟩
section
variable {M:Model} {A:Around} {E:Value->Shared->Prop} {s:Shared} {kd:SortKind} {Ok:Keyed->Prop} {rk:Keyed->Int} {a b:Array Keyed}
theorem at_ {a:Array Keyed} {i:Nat} (h:i < a.size):∃x,a[i]?=some x/\a.toList[i]?=some x/\x∈a.toList:=by
 refine⟨a[i],HB h,?_,by simp⟩;rw[YB];exact HB h
end
noncomputable abbrev U7:=Option (Array Keyed)×Nat×Nat×Array Keyed×Nat×Nat×Nat
def pF (a b:Array Keyed) (out:Array Keyed) (na nb:Nat):Array Keyed:=a.extract 0 na++b.extract 0 nb++out.reverse
def OI (a b:Array Keyed) (out:Array Keyed) (na nb:Nat):Array Keyed:=b.extract 0 nb++a.extract 0 na++out.reverse
def m6 (a b:Array Keyed) (out:Array Keyed) (na nb g k k1:Nat):StateT SortSt Sem (ForInStep U7):=do
 let x<-elem' a (na - 1)
 if (na - 1 == 0)=true then pure (ForInStep.done (some (pF a b (out.push x) (na - 1) nb),na - 1,nb,out.push x,g,k,k1))
 else if (decide (k < 7)&&decide (k1 < 7))=true then pure (ForInStep.done (none,na - 1,nb,out.push x,g,k,k1))
 else pure (ForInStep.yield (none,na - 1,nb,out.push x,g,k,k1))
def o6 (a b:Array Keyed) (out:Array Keyed) (na nb g k bc:Nat):StateT SortSt Sem (ForInStep U7):=do
 let y<-elem' b (nb - 1)
 if (nb - 1 == 1)=true then pure (ForInStep.done (some (OI a b (out.push y) na (nb - 1)),na,nb - 1,out.push y,g,k,bc))
 else do
  let x<-elem' a (na - 1)
  let r<-VG true x b 0 (nb - 1) (nb - 1 - 1)
  match r with
  |some at_=>
   if nb - 1 - at_ > 0 then
    if (at_ == 1)=true then pure (ForInStep.done (some (OI a b (out.push y++(b.extract at_ (nb - 1)).reverse) na at_),na,at_,out.push y++(b.extract at_ (nb - 1)).reverse,g,k,nb - 1 - at_))
    else if (at_ == 0)=true then pure (ForInStep.done (some (pF a b (out.push y++(b.extract at_ (nb - 1)).reverse) na at_),na,at_,out.push y++(b.extract at_ (nb - 1)).reverse,g,k,nb - 1 - at_))
    else m6 a b (out.push y++(b.extract at_ (nb - 1)).reverse) na at_ g k (nb - 1 - at_)
   else m6 a b (out.push y) na (nb - 1) g k (nb - 1 - at_)
  |_=>pure (ForInStep.done (some (pF a b (out.push y) na (nb - 1)),na,nb - 1,out.push y,g,k,bc))
def p6 (a b:Array Keyed) (out:Array Keyed) (na nb g ac bc:Nat):StateT SortSt Sem (ForInStep U7):=do
 NR g
 let y<-elem' b (nb - 1)
 let r<-VG false y a 0 na (na - 1)
 match r with
 |some at_=>
  if na - at_ > 0 then
   if (at_ == 0)=true then pure (ForInStep.done (some (pF a b (out++(a.extract at_ na).reverse) at_ nb),at_,nb,out++(a.extract at_ na).reverse,g,na - at_,bc))
   else o6 a b (out++(a.extract at_ na).reverse) at_ nb g (na - at_) bc
  else o6 a b out na nb g (na - at_) bc
 |_=>pure (ForInStep.done (some (pF a b out na nb),na,nb,out,g,ac,bc))
def lO (a b:Array Keyed) (s:U7):StateT SortSt Sem (ForInStep U7):=
 if s.snd.snd.snd.snd.fst > 1 then p6 a b s.snd.snd.snd.fst s.snd.fst s.snd.snd.fst (s.snd.snd.snd.snd.fst - 1) s.snd.snd.snd.snd.snd.fst s.snd.snd.snd.snd.snd.snd
 else p6 a b s.snd.snd.snd.fst s.snd.fst s.snd.snd.fst s.snd.snd.snd.snd.fst s.snd.snd.snd.snd.snd.fst s.snd.snd.snd.snd.snd.snd
structure MH (rk:Keyed->Int) (la lb rl:List Keyed) (na nb:Nat):Prop where
 pm:(la.take na++lb.take nb++rl).Perm (la++lb)
 so:Up rk rl
 oa:∀x∈la.take na,∀y∈rl,rk x<=rk y
 ob:∀x∈lb.take nb,∀y∈rl,rk x<=rk y
section
variable {rk:Keyed->Int} {la lb rl:List Keyed} {na nb:Nat} {x y:Keyed}
theorem iQ {a:Array Keyed} {i:Nat}:(a.extract 0 i).toList=a.toList.take i:=by
 rw[Array.toList_extract];show ((a.toList.drop 0).take (i - 0))=_;rw[List.drop_zero,Nat.sub_zero]
theorem MH.done {a b out:Array Keyed} (h:MH rk a.toList b.toList out.toList.reverse na nb) (ha:Up rk a.toList) (hb:Up rk b.toList) (hd:na=0\/nb=0):NH rk a.toList b.toList (pF a b out na nb):=by
 unfold NH pF;rw[Array.toList_append,Array.toList_append,iQ,iQ,Array.toList_reverse];refine⟨h.pm,?_⟩;have sa:Up rk (a.toList.take na):=ha.sublist (jB _ _);have sb:Up rk (b.toList.take nb):=hb.sublist (jB _ _);refine xB.mpr ⟨xB.mpr ⟨sa,sb,?_⟩,h.so,λx hx y hy=>?_⟩
 ·intro x hx y hy;rcases hd with rfl|rfl
  ·rw[List.take_zero] at hx;cases hx
  ·rw[List.take_zero] at hy;cases hy
 ·rcases dA.mp hx with hx|hx
  ·exact h.oa x hx y hy
  ·exact h.ob x hx y hy
theorem MH.first {a b out:Array Keyed} (h:MH rk a.toList b.toList out.toList.reverse na nb) (ha:Up rk a.toList) (hb:Up rk b.toList) (hl:∀x∈b.toList.take nb,∀y∈a.toList,rk x<=rk y):NH rk a.toList b.toList (OI a b out na nb):=by
 unfold NH OI;rw[Array.toList_append,Array.toList_append,iQ,iQ,Array.toList_reverse];have sa:Up rk (a.toList.take na):=ha.sublist (jB _ _);have sb:Up rk (b.toList.take nb):=hb.sublist (jB _ _);constructor
 ·exact List.Perm.trans (List.Perm.append_right _ List.perm_append_comm) h.pm
 ·refine xB.mpr ⟨xB.mpr ⟨sb,sa,λx hx y hy=>hl x hx y (List.mem_of_mem_take hy)⟩,h.so,λx hx y hy=>?_⟩;rcases dA.mp hx with hx|hx
  ·exact h.ob x hx y hy
  ·exact h.oa x hx y hy
end
section
variable {M:Model} {A:Around} {E:Value->Shared->Prop} {s:Shared} {kd:SortKind} {Ok:Keyed->Prop} {rk:Keyed->Int} {a b:Array Keyed}
def Hd (rk:Keyed->Int) (a b:Array Keyed) (p:Nat) (ret:Option (Array Keyed)) (na nb:Nat) (out:Array Keyed):Prop:=match ret with
 |some r=>NH rk a.toList b.toList r
 |none=>MH rk a.toList b.toList out.toList.reverse na nb/\1<=na/\2<=nb/\na<=a.size/\nb<=b.size/\p+na+nb<=a.size+b.size
end
noncomputable abbrev sl (xs:Array Keyed) (i n:Nat):List Keyed:=(xs.toList.drop i).take n
def Ct:List (Nat×Nat×Nat)->Nat->Nat->Prop
 |[],s,e=>s=e
 |t::l,s,e=>t.1=s/\1<=t.2.1/\Ct l (s+t.2.1) e
theorem Ct.len:∀{l:List (Nat×Nat×Nat)} {s e:Nat},Ct l s e->s+l.length<=e
 |[],s,e,h=>by cases h;exact kA _
 |t::l,s,e,⟨_,h2,h3⟩=>by have:=Ct.len h3;rw[ZA];omega
theorem Ct.mem:∀{l:List (Nat×Nat×Nat)} {s e:Nat},Ct l s e->∀t∈l,s<=t.1/\t.1+t.2.1<=e
 |[],s,e,h,t,ht=>by cases ht
 |u::l,s,e,⟨h1,h2,h3⟩,t,ht=>by
  have h4:=Ct.len h3;rcases vA.mp ht with rfl|ht
  ·omega
  ·have:=Ct.mem h3 t ht;omega
section
variable {M:Model} {A:Around} {E:Value->Shared->Prop} {s:Shared} {a₀:Array Keyed} {kd:SortKind} {pd:Array (Nat×Nat×Nat)} {Ok:Keyed->Prop} {rk:Keyed->Int}
end
def tL (pw:Nat) (t:Nat×Nat×Nat):Nat×Nat×Nat:=match t with
 |(st,len,_)=>(st,len,pw)
section
variable {M:Model} {A:Around} {E:Value->Shared->Prop} {s:Shared} {a₀:Array Keyed} {kd:SortKind} {pd:Array (Nat×Nat×Nat)} {Ok:Keyed->Prop} {rk:Keyed->Int}
structure Pn (rk:Keyed->Int) (a₀:Array Keyed) (kd:SortKind) (pd:Array (Nat×Nat×Nat)) (lo:Nat) (st:SortSt):Prop where
 b:Sb a₀ kd pd st
 c:Ct pd.toList 0 lo
 g:∀t∈pd.toList,gQ rk (arrOf st) t.1 t.2.1
 le:lo<=a₀.size
theorem Pn.out {lo lo' n':Nat} {st st':SortSt} (h:Pn rk a₀ kd pd lo st) (hb:Sb a₀ kd pd st') (o:HM (arrOf st) (arrOf st') lo' n') (hl:lo<=lo'):Pn rk a₀ kd pd lo st':=
 ⟨hb,h.c,λt ht=>(h.g t ht).out o (.inl (by have:=h.c.mem t ht;omega)),h.le⟩
theorem Ct.mod (pw:Nat):∀{l:List (Nat×Nat×Nat)} (i:Nat) {s e:Nat},Ct l s e->Ct (l.modify i (tL pw)) s e/\∀t∈l.modify i (tL pw),∃u∈l,t.1=u.1/\t.2.1=u.2.1
 |[],i,s,e,h=>by
  rw[show ([]:List (Nat×Nat×Nat)).modify i (tL pw)=[] by cases i<;>rfl];exact⟨h,λt ht=>by cases ht⟩
 |(a,b,c)::l,0,s,e,⟨h1,h2,h3⟩=>by
  rw[List.modify_zero_cons];refine⟨⟨h1,h2,h3⟩,λt ht=>?_⟩;rcases vA.mp ht with rfl|ht
  ·exact⟨(a,b,c),qA .., rfl,rfl⟩
  ·exact⟨t,xA _ ht,rfl,rfl⟩
 |u::l,i+1,s,e,⟨h1,h2,h3⟩=>by
  obtain⟨g1,g2⟩:=Ct.mod pw i h3;rw[List.modify_succ_cons];refine⟨⟨h1,h2,g1⟩,λt ht=>?_⟩;rcases vA.mp ht with rfl|ht
  ·exact⟨t,qA .., rfl,rfl⟩
  ·obtain⟨v,v1,v2⟩:=g2 t ht;exact⟨v,xA _ v1,v2⟩
end
section
variable {prog:Program} {w:World} {A:Around} {E:Value->Shared->Prop} {s:Shared}
end
end TS
end L2
namespace L2
open PySem PySem.Spec PyProof.Rows
namespace TS
section
variable {prog:Program} {w:World} {A:Around} {E:Value->Shared->Prop} {s:Shared}
end
end TS
end L2
set_option hygiene false in
local macro_rules| `(tactic|walk_at "wp")=> `(tactic|simp only[↓L2.jL, ↓L2.YN, ↓L2.kL, ↓L2.ZN, ↓L2.lL,L2.iN,L2.tNext,L2.zI,L2.MG,L2.jN,L2.tRetN,L2.eJ,L2.kN,L2.V1,L2.mJ,L2.tB,L2.rN,L2.Q2,L2.xI,L2.SG,L2.tC,L2.rI,L2.sH,L2.rU,L2.dN,L2.T1,L2.fN,L2.cJ,L2.dJ,L2.CH,L2.yG,L2.zG,L2.WQ,L2.pJ,L2.tNil,L2.vH,L2.zN,L2.yN,L2.CN,L2.JK,L2.wN,L2.xN,L2.DH,L2.rEq,L2.rNe,L2.wE,L2.tN,L2.FK,L2.DI,L2.YK,L2.ZK,L2.Ve,L2.Nd,L2.Pd,L2.Qd,L2.rIxH,L2.wd,L2.yd,L2.IC,L2.Xa,L2.HO.ins.injEq,L2.rCat,L2.DN,L2.T3,L2.qJ,L2.tNoPart,L2.Td,L2.Ud,L2.xJ,L2.hJ,L2.iJ,L2.gJ,L2.AJ,L2.AK,L2.gNil,L2.fJ,L2.tDNewK,L2.i4,L2.HN,L2.rAppend,L2.rPop,L2.qN,L2.rSetL,L2.HH,L2.JH,L2.JJ,L2.KJ,L2.tYes,Option.join_some,Option.join_none,PySem.sizeLine_eq,Nat.reduceLeDiff,eq_self,SA,
 yA,BB,ZA,List.length_nil,List.cons_append,List.nil_append,GB,List.replicate,Nat.reduceSub,Nat.reduceAdd,List.getElem?_cons_zero,List.getElem?_cons_succ,List.set_cons_zero,List.set_cons_succ,
 Option.some.injEq,List.cons.injEq,L2.V.int.injEq,L2.V.bl.injEq,L2.V.ref.injEq,L2.V.ty.injEq,L2.V.str.injEq,exists_eq_left,exists_eq_left',exists_and_left,exists_eq',exists_const,and_assoc,and_true,true_and, ↓reduceIte,Int.reduceLE,Int.reduceLT,Nat.reducePow,Int.reducePow,Int.reduceNeg,L2.mR,Nat.reduceLT,Int.reduceToNat,Int.reduceAdd,Int.reduceMul,Int.reduceSub,true_or,or_true,decide_true,decide_false])
namespace Pf
open PySem L2
noncomputable abbrev OR:Stmt:=qC 16
theorem mf:fC ["thing"] ["thing"] (cC OR):=⟨rfl,rfl,rfl,∅,rfl,∅,∅⟩
noncomputable abbrev PR:Stmt:=qC 17
theorem pf:fC ["thing","low","high"] ["thing","low","high"] (cC PR):=⟨rfl,rfl,rfl,∅,rfl,∅,∅⟩
noncomputable abbrev QR:Stmt:=qC 35
theorem jQ:fC ["exponent","power","doubling"] ["exponent"] (cC QR):=⟨rfl,rfl,rfl,∅,rfl,∅,∅⟩
noncomputable abbrev SR:Stmt:=qC 36
theorem qf:fC ["levels","fan","grain"] ["levels","fan","grain"] (cC SR):=⟨rfl,rfl,rfl,∅,rfl,∅,∅⟩
noncomputable abbrev TR:Stmt:=dC (qC 37) 0
theorem rf:fC ["self","levels","fan","grain"] ["self","levels","fan","grain"] (cC TR):=⟨rfl,rfl,rfl,∅,rfl,∅,∅⟩
noncomputable abbrev UR:Stmt:=dC (qC 37) 1
theorem sf:fC ["self"] ["self"] (cC UR):=⟨rfl,rfl,rfl,∅,rfl,∅,∅⟩
noncomputable abbrev VR:Stmt:=dC (qC 37) 3
theorem uf:fC ["self","page"] ["self","page"] (cC VR):=⟨rfl,rfl,rfl,∅,rfl,∅,∅⟩
noncomputable abbrev WR:Stmt:=dC (qC 37) 5
theorem vf:fC ["self","address"] ["self","address"] (cC WR):=⟨rfl,rfl,rfl,∅,rfl,∅,∅⟩
noncomputable abbrev YR:Stmt:=dC (qC 37) 6
theorem wf:fC ["self","address"] ["self","address"] (cC YR):=⟨rfl,rfl,rfl,∅,rfl,∅,∅⟩
noncomputable abbrev ZR:Stmt:=dC (qC 37) 10
theorem xf:fC ["self","first","many"] ["self","first","many"] (cC ZR):=⟨rfl,rfl,rfl,∅,rfl,∅,∅⟩
noncomputable abbrev aS:Stmt:=qC 20
theorem yf:fC ["rights"] ["rights"] (cC aS):=⟨rfl,rfl,rfl,∅,rfl,∅,∅⟩
noncomputable abbrev bS:Stmt:=qC 21
theorem zf:fC ["run"] ["run"] (cC bS):=⟨rfl,rfl,rfl,∅,rfl,∅,∅⟩
noncomputable abbrev cS:Stmt:=qC 22
theorem r6:fC ["run","page","tie"] ["run","page"] (cC cS):=⟨rfl,rfl,rfl,∅,rfl,∅,∅⟩
noncomputable abbrev dS:Stmt:=qC 23
theorem t6:fC ["run","low","high","first"] ["run","low","high"] (cC dS):=⟨rfl,rfl,rfl,∅,rfl,∅,∅⟩
noncomputable abbrev fS:Stmt:=qC 24
theorem Nf:fC ["run","later"] ["run","later"] (cC fS):=⟨rfl,rfl,rfl,∅,rfl,∅,∅⟩
noncomputable abbrev gS:Stmt:=qC 25
theorem kQ:fC ["runs","fewer","run","last"] ["runs"] (cC gS):=⟨rfl,rfl,rfl,∅,rfl,∅,∅⟩
noncomputable abbrev iS:Stmt:=dC (qC 26) 0
theorem Of:fC ["self"] ["self"] (cC iS):=⟨rfl,rfl,rfl,∅,rfl,∅,∅⟩
noncomputable abbrev QI:Stmt:=dC (qC 26) 1
theorem Rf:fC ["self","first","many","rights","tie"] ["self","first","many","rights","tie"] (cC QI):=⟨rfl,rfl,rfl,∅,rfl,∅,∅⟩
noncomputable abbrev jS:Stmt:=dC (qC 26) 5
theorem u6:fC ["self","page","part"] ["self","page"] (cC jS):=⟨rfl,rfl,rfl,∅,rfl,∅,∅⟩
noncomputable abbrev kS:Stmt:=dC (qC 26) 6
theorem w6:fC ["self","page","part"] ["self","page"] (cC kS):=⟨rfl,rfl,rfl,∅,rfl,∅,∅⟩
noncomputable abbrev lS:Stmt:=dC (qC 26) 7
theorem Sf:fC ["self","first","many"] ["self","first","many"] (cC lS):=⟨rfl,rfl,rfl,∅,rfl,∅,∅⟩
noncomputable abbrev mS:Stmt:=dC (qC 26) 12
theorem IM:fC ["self","page","low","high","middle"] ["self","page"] (cC mS):=⟨rfl,rfl,rfl,∅,rfl,∅,∅⟩
noncomputable abbrev nS:Stmt:=dC (qC 26) 13
theorem oS:fC ["self","first","many","end","near"] ["self","first","many"] (cC nS):=⟨rfl,rfl,rfl,∅,rfl,∅,∅⟩
noncomputable abbrev pS:Stmt:=dC (qC 26) 14
theorem x6:fC ["self","page","parts"] ["self","page"] (cC pS):=⟨rfl,rfl,rfl,∅,rfl,∅,∅⟩
noncomputable abbrev qS:Stmt:=dC (qC 26) 15
theorem uL:fC ["self","first","many","parts","end","low","high","near","ahead","behind"] ["self","first","many","parts"] (cC qS):=⟨rfl,rfl,rfl,∅,rfl,∅,∅⟩
noncomputable abbrev rS:Stmt:=dC (qC 26) 10
theorem Tf:fC ["self"] ["self"] (cC rS):=⟨rfl,rfl,rfl,∅,rfl,∅,∅⟩
noncomputable abbrev sS:Stmt:=qC 29
theorem tS:fC ["numbers","number"] ["numbers"] (cC sS):=⟨rfl,rfl,rfl,∅,rfl,∅,∅⟩
noncomputable abbrev uS:Stmt:=dC (qC 30) 0
theorem Uf:fC ["self","shape"] ["self","shape"] (cC uS):=⟨rfl,rfl,rfl,∅,rfl,∅,∅⟩
noncomputable abbrev wS:Stmt:=dC (qC 30) 1
theorem y6:fC ["self","task"] ["self"] (cC wS):=⟨rfl,rfl,rfl,∅,rfl,∅,∅⟩
noncomputable abbrev xS:Stmt:=dC (qC 30) 4
theorem M6:fC ["self","many","bank"] ["self","many"] (cC xS):=⟨rfl,rfl,rfl,∅,rfl,∅,∅⟩
noncomputable abbrev OH:Stmt:=dC (qC 30) 6
theorem yS:fC ["self","task","first","many","rights","bank","start","tie"] ["self","task","first","many","rights","bank","start"] (cC OH):=⟨rfl,rfl,rfl,∅,rfl,∅,∅⟩
noncomputable abbrev zS:Stmt:=dC (qC 30) 9
theorem AS:fC ["self","task","address","want","parts","rights"] ["self","task","address","want"] (cC zS):=⟨rfl,rfl,rfl,∅,rfl,∅,∅⟩
noncomputable abbrev BS:Stmt:=dC (qC 30) 15
theorem Vf:fC ["self","task","page"] ["self","task","page"] (cC BS):=⟨rfl,rfl,rfl,∅,rfl,∅,∅⟩
noncomputable abbrev CS:Stmt:=dC (qC 30) 13
theorem Wf:fC ["self","task"] ["self","task"] (cC CS):=⟨rfl,rfl,rfl,∅,rfl,∅,∅⟩
noncomputable abbrev DS:Stmt:=dC (qC 30) 16
theorem ES:fC ["self","task","mapped","run"] ["self","task"] (cC DS):=⟨rfl,rfl,rfl,∅,rfl,∅,∅⟩
noncomputable abbrev FS:Stmt:=dC (qC 30) 17
theorem Xf:fC ["self","task"] ["self","task"] (cC FS):=⟨rfl,rfl,rfl,∅,rfl,∅,∅⟩
noncomputable abbrev GS:Stmt:=dC (qC 30) 18
theorem Zf:fC ["self","bank"] ["self","bank"] (cC GS):=⟨rfl,rfl,rfl,∅,rfl,∅,∅⟩
noncomputable abbrev HS:Stmt:=dC (qC 30) 19
theorem ag:fC ["self","task","first","many"] ["self","task","first","many"] (cC HS):=⟨rfl,rfl,rfl,∅,rfl,∅,∅⟩
noncomputable abbrev IS:Stmt:=dC (qC 30) 20
theorem bg:fC ["self","bank","start","many"] ["self","bank","start","many"] (cC IS):=⟨rfl,rfl,rfl,∅,rfl,∅,∅⟩
noncomputable abbrev JS:Stmt:=dC (qC 32) 0
theorem cg:fC ["self","shape","most"] ["self","shape","most"] (cC JS):=⟨rfl,rfl,rfl,∅,rfl,∅,∅⟩
noncomputable abbrev KS:Stmt:=dC (qC 32) 1
theorem N6:fC ["self","task"] ["self"] (cC KS):=⟨rfl,rfl,rfl,∅,rfl,∅,∅⟩
noncomputable abbrev LS:Stmt:=dC (qC 32) 4
theorem O6:fC ["self","many","bank"] ["self","many"] (cC LS):=⟨rfl,rfl,rfl,∅,rfl,∅,∅⟩
noncomputable abbrev PH:Stmt:=dC (qC 32) 6
theorem P6:fC ["self","task","first","many","rights","bank","start"] ["self","task","first","many","rights","bank","start"] (cC PH):=⟨rfl,rfl,rfl,∅,rfl,∅,∅⟩
noncomputable abbrev MS:Stmt:=dC (qC 32) 9
theorem Q6:fC ["self","task","address","parts"] ["self","task","address"] (cC MS):=⟨rfl,rfl,rfl,∅,rfl,∅,∅⟩
noncomputable abbrev NS:Stmt:=dC (qC 32) 10
theorem R6:fC ["self","task","address","value","parts"] ["self","task","address","value"] (cC NS):=⟨rfl,rfl,rfl,∅,rfl,∅,∅⟩
noncomputable abbrev OS:Stmt:=dC (qC 32) 15
theorem dg:fC ["self","task"] ["self","task"] (cC OS):=⟨rfl,rfl,rfl,∅,rfl,∅,∅⟩
noncomputable abbrev QS:Stmt:=dC (qC 32) 16
theorem eg:fC ["self"] ["self"] (cC QS):=⟨rfl,rfl,rfl,∅,rfl,∅,∅⟩
noncomputable abbrev RS:Stmt:=dC (qC 32) 17
theorem SS:fC ["self","task","page","tie","pages","number"] ["self","task","page","tie"] (cC RS):=⟨rfl,rfl,rfl,∅,rfl,∅,∅⟩
noncomputable abbrev US:Stmt:=dC (qC 32) 18
theorem fg:fC ["self"] ["self"] (cC US):=⟨rfl,rfl,rfl,∅,rfl,∅,∅⟩
noncomputable abbrev VS:Stmt:=dC (qC 32) 19
theorem S6:fC ["self","task","page","tie"] ["self","task","page"] (cC VS):=⟨rfl,rfl,rfl,∅,rfl,∅,∅⟩
noncomputable abbrev WS:Stmt:=dC (qC 32) 20
theorem XS:fC ["self","task","page","pages","number"] ["self","task","page"] (cC WS):=⟨rfl,rfl,rfl,∅,rfl,∅,∅⟩
noncomputable abbrev YS:Stmt:=dC (qC 32) 21
theorem gg:fC ["self","pages","page"] ["self","pages","page"] (cC YS):=⟨rfl,rfl,rfl,∅,rfl,∅,∅⟩
noncomputable abbrev ZS:Stmt:=dC (qC 32) 23
theorem T6:fC ["self","boxes","number"] ["self","boxes"] (cC ZS):=⟨rfl,rfl,rfl,∅,rfl,∅,∅⟩
noncomputable abbrev aT:Stmt:=dC (qC 32) 24
theorem U6:fC ["self","pages","page","number"] ["self","pages","page"] (cC aT):=⟨rfl,rfl,rfl,∅,rfl,∅,∅⟩
noncomputable abbrev bT:Stmt:=dC (qC 32) 2
theorem cT:fC ["self","task","other","number"] ["self","task"] (cC bT):=⟨rfl,rfl,rfl,∅,rfl,∅,∅⟩
noncomputable abbrev eT:Stmt:=dC (qC 32) 11
theorem lQ:fC ["self","before","first_by_boxes","task"] ["self"] (cC eT):=⟨rfl,rfl,rfl,∅,rfl,∅,∅⟩
noncomputable abbrev fT:Stmt:=dC (qC 32) 22
theorem iT:fC ["self","pages","first_by_boxes","page","number"] ["self","pages","first_by_boxes"] (cC fT):=⟨rfl,rfl,rfl,∅,rfl,∅,∅⟩
noncomputable abbrev jT:Stmt:=dC (qC 30) 2
theorem V6:fC ["self","task","other"] ["self","task"] (cC jT):=⟨rfl,rfl,rfl,∅,rfl,∅,∅⟩
noncomputable abbrev kT:Stmt:=dC (qC 26) 11
theorem W6:fC ["self","other"] ["self"] (cC kT):=⟨rfl,rfl,rfl,∅,rfl,∅,∅⟩
noncomputable abbrev lT:Stmt:=qC 39
theorem ig:fC ["_law_script","_law_k"] ["_law_script","_law_k"] (cC lT):=⟨rfl,rfl,rfl,∅,rfl,∅,∅⟩
noncomputable abbrev mT:Stmt:=qC 40
theorem X6:fC ["_law_cell","_law_place","_law_many","_law_prime"] ["_law_cell","_law_place","_law_many"] (cC mT):=⟨rfl,rfl,rfl,∅,rfl,∅,∅⟩
noncomputable abbrev pT:Stmt:=qC 41
theorem jg:fC ["_law_found","_law_due"] ["_law_found","_law_due"] (cC pT):=⟨rfl,rfl,rfl,∅,rfl,∅,∅⟩
noncomputable abbrev qT:Stmt:=qC 42
theorem kg:fC ["_law_task","_law_page"] ["_law_task","_law_page"] (cC qT):=⟨rfl,rfl,rfl,∅,rfl,∅,∅⟩
noncomputable abbrev rT:Stmt:=qC 43
theorem mO:fC ["_law_rows","_law_sheets","_law_kept","_law_gone","_law_key_here","_law_stay"] ["_law_rows","_law_sheets"] (cC rT):=⟨rfl,rfl,rfl,∅,rfl,∅,∅⟩
noncomputable abbrev tT:Stmt:=qC 44
theorem JM:fC ["_law_rooms","_law_rows","_law_sheets","_law_spot","_law_value","_law_turn_here","_law_task","_law_box","_law_key_here","_law_address","_law_alike"] ["_law_rooms","_law_rows","_law_sheets","_law_spot","_law_value","_law_turn_here"] (cC tT):=⟨rfl,rfl,rfl,∅,rfl,∅,∅⟩
noncomputable abbrev uT:Stmt:=qC 45
theorem mQ:fC ["_law_rooms","_law_rows","_law_tasks","_law_size","_law_task","_law_due","_law_page"] ["_law_rooms","_law_rows","_law_tasks","_law_size"] (cC uT):=⟨rfl,rfl,rfl,∅,rfl,∅,∅⟩
noncomputable abbrev vT:Stmt:=qC 46
theorem NJ:fC ["_law_rooms","_law_rows","_law_sheets","_law_tasks","_law_cell","_law_turn_here","_law_worth","_law_way","_law_task","_law_page","_law_key_here","_law_box","_law_value"] ["_law_rooms","_law_rows","_law_sheets","_law_tasks","_law_cell","_law_turn_here","_law_worth"] (cC vT):=⟨rfl,rfl,rfl,∅,rfl,∅,∅⟩
noncomputable abbrev nQ:Stmt:=qC 47
theorem bH:fC ["_law_script","_law_grain","_law_size","_law_rooms","_law_worth","_law_rows","_law_sheets","_law_tasks","_law_cells","_law_turn_here","_law_cell","_law_key_here"] ["_law_script"] (cC nQ):=⟨rfl,rfl,rfl,∅,rfl,∅,∅⟩
set_option genInjectivity false in
structure RC where
 Aa:Addr
 Ad:Addr
 Ab:Addr
 Ae:Addr
 A3:Addr
 Ar:Addr
 As:Addr
 At:Addr
 A4:Addr
 Av:Addr
 Bb:Addr
 Ax:Addr
 A9:Addr
 Aq:Addr
structure fD (K:W.Frag) (mg:Str->Option Value) (A:RC):Prop where
 Jt:mg "bool"=none
 Lv:mg "dict"=none
 Iu:mg "enumerate"=none
 Ld:mg "int"=none
 Bh:mg "isinstance"=none
 A7:mg "len"=none
 B7:mg "list"=none
 Mh:mg "max"=none
 Mi:mg "min"=none
 D0:mg "range"=none
 Mj:mg "set"=none
 Gz:mg "sorted"=none
 Je:mg "tuple"=none
 Lw:∃u,mg "READ"=some u/\pC (.int 1) u
 Le:∃u,mg "WRITE"=some u/\pC (.int 2) u
 Gj:∃u,mg "MOST_RIGHTS"=some u/\pC (.int 3) u
 Fq:∃u,mg "MOST_IN_BANK"=some u/\pC (.int 64) u
 D3:∃u,mg "MOST_IN_STRETCH"=some u/\pC (.int 64) u
 Jg:sF K mg "is_whole" "is_whole" OR ["thing"] []
 Iv:sF K mg "is_within" "is_within" PR ["thing","low","high"] []
 Fs:sF K mg "power_of_two" "power_of_two" QR ["exponent"] []
 Ed:sF K mg "check_measures" "check_measures" SR ["levels","fan","grain"] []
 Ft:sF K mg "check_rights" "check_rights" aS ["rights"] []
 Ke:sF K mg "end_of" "end_of" bS ["run"] []
 Jh:sF K mg "tie_from" "tie_from" cS ["run","page"] []
 Ju:sF K mg "part_of" "part_of" dS ["run","low","high"] []
 Jv:sF K mg "goes_on" "goes_on" fS ["run","later"] []
 Kg:sF K mg "joined" "joined" gS ["runs"] []
 Ha:sF K mg "least_free" "least_free" sS ["numbers"] []
 Iw:sF K mg "_law_cell_at" "_law_cell_at" lT ["_law_script","_law_k"] []
 Kh:sF K mg "_law_part" "_law_part" mT ["_law_cell","_law_place","_law_many"] []
 Jw:sF K mg "_law_whole" "_law_whole" pT ["_law_found","_law_due"] []
 Lg:sF K mg "_law_key" "_law_key" qT ["_law_task","_law_page"] []
 Ji:sF K mg "_law_folded" "_law_folded" rT ["_law_rows","_law_sheets"] []
 Jj:sF K mg "_law_access" "_law_access" tT ["_law_rooms","_law_rows","_law_sheets","_law_spot","_law_value","_law_turn_here"] []
 Ki:sF K mg "_law_seen" "_law_seen" uT ["_law_rooms","_law_rows","_law_tasks","_law_size"] []
 Kj:sF K mg "_law_turn" "_law_turn" vT ["_law_rooms","_law_rows","_law_sheets","_law_tasks","_law_cell","_law_turn_here","_law_worth"] []
 Af:OF K A.Aa
 Ah:OC K A.Aa "runs"
 Ee:AG K mg "Stretches" A.Aa "Stretches.__init__" iS ["self"] []
 E7:xE K A.Aa "put" "Stretches.put" QI ["self","first","many","rights","tie"] []
 Kk:xE K A.Aa "put" "Stretches.put" QI ["self","first","many","rights","tie"] [.non]
 B8:TC K A.Aa "rights_at" "Stretches.rights_at" jS ["self","page"] []
 Db:TC K A.Aa "tie_at" "Stretches.tie_at" kS ["self","page"] []
 Cu:TC K A.Aa "is_free" "Stretches.is_free" lS ["self","first","many"] []
 Bv:TC K A.Aa "place_behind" "Stretches.place_behind" mS ["self","page"] []
 B2:TC K A.Aa "parts_amid" "Stretches.parts_amid" nS ["self","first","many"] []
 Cv:TC K A.Aa "part_at" "Stretches.part_at" pS ["self","page"] []
 Ck:TC K A.Aa "lay_amid" "Stretches.lay_amid" qS ["self","first","many","parts"] []
 Ef:TC K A.Aa "told" "Stretches.told" rS ["self"] []
 Dc:TC K A.Aa "copied" "Stretches.copied" kT ["self"] []
 Ag:OF K A.Ad
 Bc:OC K A.Ad "shape"
 An:OC K A.Ad "tasks"
 A0:OC K A.Ad "banks"
 Hb:AG K mg "House" A.Ad "House.__init__" uS ["self","shape"] []
 Eg:TC K A.Ad "new_task" "House.new_task" wS ["self"] []
 Eh:TC K A.Ad "new_bank" "House.new_bank" xS ["self","many"] []
 Ix:xE K A.Ad "lay" "House.lay" OH ["self","task","first","many","rights","bank","start"] []
 Lx:xE K A.Ad "lay" "House.lay" OH ["self","task","first","many","rights","bank","start"] [.int 0]
 Ly:xE K A.Ad "lay" "House.lay" OH ["self","task","first","many","rights","bank","start"] [.non,.int 0]
 Gk:TC K A.Ad "asked" "House.asked" zS ["self","task","address","want"] []
 Fu:TC K A.Ad "tie_at" "House.tie_at" BS ["self","task","page"] []
 Cl:TC K A.Ad "stretches_of" "House.stretches_of" CS ["self","task"] []
 Ei:TC K A.Ad "pages_of" "House.pages_of" DS ["self","task"] []
 Dd:TC K A.Ad "check_task" "House.check_task" FS ["self","task"] []
 Df:TC K A.Ad "check_bank" "House.check_bank" GS ["self","bank"] []
 Ca:TC K A.Ad "check_stretch" "House.check_stretch" HS ["self","task","first","many"] []
 Bp:TC K A.Ad "check_part_of_bank" "House.check_part_of_bank" IS ["self","bank","start","many"] []
 Hc:TC K A.Ad "fork" "House.fork" jT ["self","task"] []
 Ac:OF K A.Ab
 Cb:OC K A.Ab "shape"
 Cr:OC K A.Ab "most"
 Ap:OC K A.Ab "house"
 Ai:OC K A.Ab "sheets"
 Aj:OC K A.Ab "havers"
 Bq:OC K A.Ab "made"
 Al:OC K A.Ab "private"
 A8:OC K A.Ab "banked"
 He:AG K mg "Rooms" A.Ab "Rooms.__init__" JS ["self","shape","most"] []
 Ej:TC K A.Ab "new_task" "Rooms.new_task" KS ["self"] []
 Ek:TC K A.Ab "new_bank" "Rooms.new_bank" LS ["self","many"] []
 Iy:xE K A.Ab "lay" "Rooms.lay" PH ["self","task","first","many","rights","bank","start"] []
 Lz:xE K A.Ab "lay" "Rooms.lay" PH ["self","task","first","many","rights","bank","start"] [.int 0]
 Hf:xE K A.Ab "lay" "Rooms.lay" PH ["self","task","first","many","rights","bank","start"] [.non,.int 0]
 Hg:TC K A.Ab "read" "Rooms.read" MS ["self","task","address"] []
 Gm:TC K A.Ab "write" "Rooms.write" NS ["self","task","address","value"] []
 E8:TC K A.Ab "seen_by" "Rooms.seen_by" OS ["self","task"] []
 Cw:TC K A.Ab "live_sheets" "Rooms.live_sheets" QS ["self"] []
 Gn:TC K A.Ab "shown" "Rooms.shown" RS ["self","task","page","tie"] []
 E9:TC K A.Ab "noughts" "Rooms.noughts" US ["self"] []
 Cc:TC K A.Ab "sheet_to_read" "Rooms.sheet_to_read" VS ["self","task","page"] []
 B3:TC K A.Ab "sheet_to_write" "Rooms.sheet_to_write" WS ["self","task","page"] []
 Cy:TC K A.Ab "sheet_there" "Rooms.sheet_there" YS ["self","pages","page"] []
 D4:TC K A.Ab "new_sheet" "Rooms.new_sheet" ZS ["self","boxes"] []
 Cz:TC K A.Ab "let_page_go" "Rooms.let_page_go" aT ["self","pages","page"] []
 Hh:TC K A.Ab "fork" "Rooms.fork" bT ["self","task"] []
 Hi:TC K A.Ab "fold" "Rooms.fold" eT ["self"] []
 Dg:TC K A.Ab "fold_pages" "Rooms.fold_pages" fT ["self","pages","first_by_boxes"] []
 Au:OF K A.Ae
 B0:OC K A.Ae "levels"
 Dh:OC K A.Ae "fan"
 Cd:OC K A.Ae "grain"
 Cs:OC K A.Ae "ways"
 A1:OC K A.Ae "boxes"
 Aw:OC K A.Ae "pages"
 Hj:AG K mg "Shape" A.Ae "Shape.__init__" TR ["self","levels","fan","grain"] []
 Di:TC K A.Ae "sheet_size" "Shape.sheet_size" UR ["self"] []
 El:TC K A.Ae "has_page" "Shape.has_page" VR ["self","page"] []
 C1:TC K A.Ae "has_address" "Shape.has_address" WR ["self","address"] []
 Fv:TC K A.Ae "parted" "Shape.parted" YR ["self","address"] []
 Hl:TC K A.Ae "fits" "Shape.fits" ZR ["self","first","many"] []
 Mn:∃u,mg "NoShape"=some u/\pC (.ref A.A3) u
 Dj:XC K mg "NoShape" A.A3
 Md:∃u,mg "OutOfRoom"=some u/\pC (.ref A.Ar) u
 D7:XC K mg "OutOfRoom" A.Ar
 Me:∃u,mg "BadRights"=some u/\pC (.ref A.As) u
 Iz:XC K mg "BadRights" A.As
 Mp:∃u,mg "NoTask"=some u/\pC (.ref A.At) u
 Kl:XC K mg "NoTask" A.At
 Mq:∃u,mg "NoBank"=some u/\pC (.ref A.A4) u
 Km:XC K mg "NoBank" A.A4
 Mf:∃u,mg "OutOfBank"=some u/\pC (.ref A.Av) u
 D8:XC K mg "OutOfBank" A.Av
 Ms:∃u,mg "Taken"=some u/\pC (.ref A.Bb) u
 Lh:XC K mg "Taken" A.Bb
 Mg:∃u,mg "NotMapped"=some u/\pC (.ref A.Ax) u
 I0:XC K mg "NotMapped" A.Ax
 Mo:∃u,mg "NoRight"=some u/\pC (.ref A.A9) u
 Jx:XC K mg "NoRight" A.A9
 Mr:∃u,mg "NoRoom"=some u/\pC (.ref A.Aq) u
 Ko:XC K mg "NoRoom" A.Aq
 Ml:∃f fd,mg "law"=some (.ref f)/\xG K "law" "law" nQ f fd/\∀(s:Shared) (u:Value),BindsTo s fd ⟨[u],[]⟩ [("_law_script",u)]
theorem FG {P:List Value->Prop} (h:∀a0,P [a0]):∀us:List Value,us.length=1->P us:=by
 intro us e;cases us with
 |nil=>cases e
 |cons a us=>
  cases us with
  |nil=>exact h a
  |cons b us=>exact absurd e (by simp)
theorem kF {P:List Value->Prop} (h:∀a0 a1,P [a0,a1]):∀us:List Value,us.length=2->P us:=by
 intro us e;cases us with
 |nil=>cases e
 |cons a us=>exact FG (P:=λus=>P (a::us)) (λb0=>h a b0) us (Nat.succ.inj e)
theorem GG {P:List Value->Prop} (h:∀a0 a1 a2,P [a0,a1,a2]):∀us:List Value,us.length=3->P us:=by
 intro us e;cases us with
 |nil=>cases e
 |cons a us=>exact kF (P:=λus=>P (a::us)) (λb0 b1=>h a b0 b1) us (Nat.succ.inj e)
theorem OJ {P:List Value->Prop} (h:∀a0 a1 a2 a3,P [a0,a1,a2,a3]):∀us:List Value,us.length=4->P us:=by
 intro us e;cases us with
 |nil=>cases e
 |cons a us=>exact GG (P:=λus=>P (a::us)) (λb0 b1 b2=>h a b0 b1 b2) us (Nat.succ.inj e)
theorem el5x {P:List Value->Prop} (h:∀a0 a1 a2 a3 a4,P [a0,a1,a2,a3,a4]):∀us:List Value,us.length=5->P us:=by
 intro us e
 cases us with
 |nil=>cases e
 |cons a us=>exact OJ (P:=λus=>P (a::us)) (λb0 b1 b2 b3=>h a b0 b1 b2 b3) us (Nat.succ.inj e)
theorem el6x {P:List Value->Prop} (h:∀a0 a1 a2 a3 a4 a5,P [a0,a1,a2,a3,a4,a5]):∀us:List Value,us.length=6->P us:=by
 intro us e
 cases us with
 |nil=>cases e
 |cons a us=>exact el5x (P:=λus=>P (a::us)) (λb0 b1 b2 b3 b4=>h a b0 b1 b2 b3 b4) us (Nat.succ.inj e)
theorem el7x {P:List Value->Prop} (h:∀a0 a1 a2 a3 a4 a5 a6,P [a0,a1,a2,a3,a4,a5,a6]):∀us:List Value,us.length=7->P us:=by
 intro us e
 cases us with
 |nil=>cases e
 |cons a us=>exact el6x (P:=λus=>P (a::us)) (λb0 b1 b2 b3 b4 b5=>h a b0 b1 b2 b3 b4 b5) us (Nat.succ.inj e)
theorem bd4x {s fd ns ds} (h:∀a0 a1 a2 a3,BindsTo s fd {pos:=[a0,a1,a2,a3]} (List.zip ns ([a0,a1,a2,a3]++ds))):∀us,us.length=4->BindsTo s fd {pos:=us} (List.zip ns (us++ds)):=OJ (P:=λus=>BindsTo s fd {pos:=us} (List.zip ns (us++ds))) h
theorem bd5x {s fd ns ds} (h:∀a0 a1 a2 a3 a4,BindsTo s fd {pos:=[a0,a1,a2,a3,a4]} (List.zip ns ([a0,a1,a2,a3,a4]++ds))):∀us,us.length=5->BindsTo s fd {pos:=us} (List.zip ns (us++ds)):=el5x (P:=λus=>BindsTo s fd {pos:=us} (List.zip ns (us++ds))) h
theorem bd6x {s fd ns ds} (h:∀a0 a1 a2 a3 a4 a5,BindsTo s fd {pos:=[a0,a1,a2,a3,a4,a5]} (List.zip ns ([a0,a1,a2,a3,a4,a5]++ds))):∀us,us.length=6->BindsTo s fd {pos:=us} (List.zip ns (us++ds)):=el6x (P:=λus=>BindsTo s fd {pos:=us} (List.zip ns (us++ds))) h
theorem bd7x {s fd ns ds} (h:∀a0 a1 a2 a3 a4 a5 a6,BindsTo s fd {pos:=[a0,a1,a2,a3,a4,a5,a6]} (List.zip ns ([a0,a1,a2,a3,a4,a5,a6]++ds))):∀us,us.length=7->BindsTo s fd {pos:=us} (List.zip ns (us++ds)):=el7x (P:=λus=>BindsTo s fd {pos:=us} (List.zip ns (us++ds))) h
theorem lg {P:List Value->Prop} (h:∀a0 a1 a2 a3 a4 a5,P [a0,a1,a2,a3,a4,a5]):∀us:List Value,us.length=6->P us:=el6x h
theorem ng {P:List Value->Prop} (h:∀a0 a1 a2 a3 a4 a5 a6,P [a0,a1,a2,a3,a4,a5,a6]):∀us:List Value,us.length=7->P us:=by
 intro us e;cases us with
 |nil=>cases e
 |cons a us=>exact lg (P:=λus=>P (a::us)) (λb0 b1 b2 b3 b4 b5=>h a b0 b1 b2 b3 b4 b5) us (Nat.succ.inj e)
theorem vL {K:W.Frag} {h:Heap} {mg:Str->Option Value} (X:K.In h) (G:h.Ns mainGlobals mg)
 {Aq A9 Ax Bb Av A4 At As Ar A3 Ae Ab Ad Aa:Addr}
 {t_READ:Tok}
 {t_WRITE:Tok}
 {t_MOST_RIGHTS:Tok}
 {t_MOST_IN_BANK:Tok}
 {t_MOST_IN_STRETCH:Tok}
 {f_0 tu_0:Addr} {od_0 an_0 ud_0:Option Addr} {sl_0 us_0:Array (Option Value)} {oc_0 kV_0 dc_0 pm_0 cd_0 ct_0 uo_0:Value} {un_0:Nat}
 {f_1 tu_1:Addr} {od_1 an_1 ud_1:Option Addr} {sl_1 us_1:Array (Option Value)} {oc_1 kV_1 dc_1 pm_1 cd_1 ct_1 uo_1:Value} {un_1:Nat} {td1_House_lay:Tok}
 {f_2 tu_2:Addr} {od_2 an_2 ud_2:Option Addr} {sl_2 us_2:Array (Option Value)} {oc_2 kV_2 dc_2 pm_2 cd_2 ct_2 uo_2:Value} {un_2:Nat} {td1_Rooms_lay:Tok}
 (Hm:W.nsIn K mainGlobals "NoRoom"=some (some (.ref Aq)))
 (Gh:W.nsIn K mainGlobals "NoRight"=some (some (.ref A9)))
 (D9:W.nsIn K mainGlobals "NotMapped"=some (some (.ref Ax)))
 (Jf:W.nsIn K mainGlobals "Taken"=some (some (.ref Bb)))
 (Ea:W.nsIn K mainGlobals "OutOfBank"=some (some (.ref Av)))
 (Hn:W.nsIn K mainGlobals "NoBank"=some (some (.ref A4)))
 (Hq:W.nsIn K mainGlobals "NoTask"=some (some (.ref At)))
 (Eb:W.nsIn K mainGlobals "BadRights"=some (some (.ref As)))
 (Ec:W.nsIn K mainGlobals "OutOfRoom"=some (some (.ref Ar)))
 (Gi:W.nsIn K mainGlobals "NoShape"=some (some (.ref A3)))
 (Li:W.nsIn K mainGlobals "Shape"=some (some (.ref Ae)))
 (Lj:W.nsIn K mainGlobals "Rooms"=some (some (.ref Ab)))
 (Lk:W.nsIn K mainGlobals "House"=some (some (.ref Ad)))
 (I8:W.nsIn K mainGlobals "Stretches"=some (some (.ref Aa)))
 (Ll:W.nsIn K mainGlobals "bool"=some none)
 (Lm:W.nsIn K mainGlobals "dict"=some none)
 (Hr:W.nsIn K mainGlobals "enumerate"=some none)
 (L3:W.nsIn K mainGlobals "int"=some none)
 (Go:W.nsIn K mainGlobals "isinstance"=some none)
 (L4:W.nsIn K mainGlobals "len"=some none)
 (Ln:W.nsIn K mainGlobals "list"=some none)
 (L5:W.nsIn K mainGlobals "max"=some none)
 (L6:W.nsIn K mainGlobals "min"=some none)
 (Kq:W.nsIn K mainGlobals "range"=some none)
 (L7:W.nsIn K mainGlobals "set"=some none)
 (Jy:W.nsIn K mainGlobals "sorted"=some none)
 (Ks:W.nsIn K mainGlobals "tuple"=some none)
 (Lp:W.nsIn K mainGlobals "READ"=some (some (.int 1 t_READ)))
 (Kt:W.nsIn K mainGlobals "WRITE"=some (some (.int 2 t_WRITE)))
 (Fx:W.nsIn K mainGlobals "MOST_RIGHTS"=some (some (.int 3 t_MOST_RIGHTS)))
 (Fc:W.nsIn K mainGlobals "MOST_IN_BANK"=some (some (.int 64 t_MOST_IN_BANK)))
 (Dk:W.nsIn K mainGlobals "MOST_IN_STRETCH"=some (some (.int 64 t_MOST_IN_STRETCH)))
 (Jk:GF K "is_whole" OR)
 (I9:GF K "is_within" PR)
 (Fy:GF K "power_of_two" QR)
 (Em:GF K "check_measures" SR)
 (Fz:GF K "check_rights" aS)
 (Ku:GF K "end_of" bS)
 (Jl:GF K "tie_from" cS)
 (Jz:GF K "part_of" dS)
 (J1:GF K "goes_on" fS)
 (Kv:GF K "joined" gS)
 (Hs:GF K "least_free" sS)
 (Ja:GF K "_law_cell_at" lT)
 (Kw:GF K "_law_part" mT)
 (J2:GF K "_law_whole" pT)
 (Lq:GF K "_law_key" qT)
 (Jm:GF K "_law_folded" rT)
 (Jn:GF K "_law_access" tT)
 (Ky:GF K "_law_seen" uT)
 (Kz:GF K "_law_turn" vT)
 (Jb:OF K Aa)
 (D5:W.findIn K (.ref Aa) "runs"=some none)
 (En:IF K Aa "Stretches.__init__" iS)
 (L8:W.findIn K (.ref Aa) "put"=some (some (.ref f_0)))
 (L9:W.isFn K (.ref f_0)=true)
 (Ma:K.lookup f_0=some ⟨oc_0,od_0,.func (W.fnOf "put" "Stretches.put" (zC QI) (xC QI) (cC QI) (.ref tu_0) kV_0 dc_0 pm_0 an_0 cd_0 ct_0),sl_0⟩)
 (Mb:K.lookup tu_0=some ⟨uo_0,ud_0,.seq #[.none] un_0,us_0⟩)
 (Mc:W.codeIn K cd_0 "Stretches.put"=true)
 (Jo:W.keepIn K (.ref f_0)=true)
 (Ce:MF K Aa "rights_at" "Stretches.rights_at" jS)
 (Dl:MF K Aa "tie_at" "Stretches.tie_at" kS)
 (C2:MF K Aa "is_free" "Stretches.is_free" lS)
 (Bw:MF K Aa "place_behind" "Stretches.place_behind" mS)
 (B4:MF K Aa "parts_amid" "Stretches.parts_amid" nS)
 (C3:MF K Aa "part_at" "Stretches.part_at" pS)
 (Cm:MF K Aa "lay_amid" "Stretches.lay_amid" qS)
 (Eo:MF K Aa "told" "Stretches.told" rS)
 (Do:MF K Aa "copied" "Stretches.copied" kT)
 (Lr:OF K Ad)
 (F0:W.findIn K (.ref Ad) "shape"=some none)
 (F4:W.findIn K (.ref Ad) "tasks"=some none)
 (F5:W.findIn K (.ref Ad) "banks"=some none)
 (Ht:IF K Ad "House.__init__" uS)
 (Ep:MF K Ad "new_task" "House.new_task" wS)
 (Er:MF K Ad "new_bank" "House.new_bank" xS)
 (K0:W.findIn K (.ref Ad) "lay"=some (some (.ref f_1)))
 (K1:W.isFn K (.ref f_1)=true)
 (K2:K.lookup f_1=some ⟨oc_1,od_1,.func (W.fnOf "lay" "House.lay" (zC OH) (xC OH) (cC OH) (.ref tu_1) kV_1 dc_1 pm_1 an_1 cd_1 ct_1),sl_1⟩)
 (K3:K.lookup tu_1=some ⟨uo_1,ud_1,.seq #[.none,(.int 0 td1_House_lay)] un_1,us_1⟩)
 (K4:W.codeIn K cd_1 "House.lay"=true)
 (F6:W.keepIn K (.ref f_1)=true)
 (Gp:MF K Ad "asked" "House.asked" zS)
 (F7:MF K Ad "tie_at" "House.tie_at" BS)
 (Cn:MF K Ad "stretches_of" "House.stretches_of" CS)
 (Es:MF K Ad "pages_of" "House.pages_of" DS)
 (Dp:MF K Ad "check_task" "House.check_task" FS)
 (Dq:MF K Ad "check_bank" "House.check_bank" GS)
 (Cf:MF K Ad "check_stretch" "House.check_stretch" HS)
 (Br:MF K Ad "check_part_of_bank" "House.check_part_of_bank" IS)
 (Hu:MF K Ad "fork" "House.fork" jT)
 (Ls:OF K Ab)
 (F8:W.findIn K (.ref Ab) "shape"=some none)
 (Gq:W.findIn K (.ref Ab) "most"=some none)
 (F9:W.findIn K (.ref Ab) "house"=some none)
 (Fe:W.findIn K (.ref Ab) "sheets"=some none)
 (Ff:W.findIn K (.ref Ab) "havers"=some none)
 (Gr:W.findIn K (.ref Ab) "made"=some none)
 (Et:W.findIn K (.ref Ab) "private"=some none)
 (Fg:W.findIn K (.ref Ab) "banked"=some none)
 (Hv:IF K Ab "Rooms.__init__" JS)
 (Eu:MF K Ab "new_task" "Rooms.new_task" KS)
 (Ev:MF K Ab "new_bank" "Rooms.new_bank" LS)
 (K5:W.findIn K (.ref Ab) "lay"=some (some (.ref f_2)))
 (K6:W.isFn K (.ref f_2)=true)
 (K7:K.lookup f_2=some ⟨oc_2,od_2,.func (W.fnOf "lay" "Rooms.lay" (zC PH) (xC PH) (cC PH) (.ref tu_2) kV_2 dc_2 pm_2 an_2 cd_2 ct_2),sl_2⟩)
 (K8:K.lookup tu_2=some ⟨uo_2,ud_2,.seq #[.none,(.int 0 td1_Rooms_lay)] un_2,us_2⟩)
 (K9:W.codeIn K cd_2 "Rooms.lay"=true)
 (Ga:W.keepIn K (.ref f_2)=true)
 (Hw:MF K Ab "read" "Rooms.read" MS)
 (Gu:MF K Ab "write" "Rooms.write" NS)
 (Fh:MF K Ab "seen_by" "Rooms.seen_by" OS)
 (C4:MF K Ab "live_sheets" "Rooms.live_sheets" QS)
 (Gv:MF K Ab "shown" "Rooms.shown" RS)
 (Fi:MF K Ab "noughts" "Rooms.noughts" US)
 (Cg:MF K Ab "sheet_to_read" "Rooms.sheet_to_read" VS)
 (B5:MF K Ab "sheet_to_write" "Rooms.sheet_to_write" WS)
 (C5:MF K Ab "sheet_there" "Rooms.sheet_there" YS)
 (D6:MF K Ab "new_sheet" "Rooms.new_sheet" ZS)
 (C6:MF K Ab "let_page_go" "Rooms.let_page_go" aT)
 (Hx:MF K Ab "fork" "Rooms.fork" bT)
 (Hy:MF K Ab "fold" "Rooms.fold" eT)
 (Dr:MF K Ab "fold_pages" "Rooms.fold_pages" fT)
 (Lu:OF K Ae)
 (Fj:W.findIn K (.ref Ae) "levels"=some none)
 (Ia:W.findIn K (.ref Ae) "fan"=some none)
 (Gb:W.findIn K (.ref Ae) "grain"=some none)
 (Gw:W.findIn K (.ref Ae) "ways"=some none)
 (Gc:W.findIn K (.ref Ae) "boxes"=some none)
 (Gd:W.findIn K (.ref Ae) "pages"=some none)
 (Ib:IF K Ae "Shape.__init__" TR)
 (Ds:MF K Ae "sheet_size" "Shape.sheet_size" UR)
 (Ew:MF K Ae "has_page" "Shape.has_page" VR)
 (C7:MF K Ae "has_address" "Shape.has_address" WR)
 (Ge:MF K Ae "parted" "Shape.parted" YR)
 (Ic:MF K Ae "fits" "Shape.fits" ZR)
 (Jp:W.excIn K A3 lE "ValueError.__new__"=true)
 (Id:W.excIn K Ar lE "ValueError.__new__"=true)
 (Ie:W.excIn K As lE "ValueError.__new__"=true)
 (J3:W.excIn K At lE "ValueError.__new__"=true)
 (J4:W.excIn K A4 lE "ValueError.__new__"=true)
 (Ig:W.excIn K Av lE "ValueError.__new__"=true)
 (La:W.excIn K Bb lE "ValueError.__new__"=true)
 (Ih:W.excIn K Ax lE "ValueError.__new__"=true)
 (Jq:W.excIn K A9 lE "ValueError.__new__"=true)
 (Ka:W.excIn K Aq lE "ValueError.__new__"=true)
 (Mm:GF K "law" nQ)
 :∃A:RC,fD K mg A:=⟨⟨Aa,Ad,Ab,Ae,A3,Ar,As,At,A4,Av,Bb,Ax,A9,Aq⟩,W.mg_none_of X G Ll,
  W.mg_none_of X G Lm,
  W.mg_none_of X G Hr,
  W.mg_none_of X G L3,
  W.mg_none_of X G Go,
  W.mg_none_of X G L4,
  W.mg_none_of X G Ln,
  W.mg_none_of X G L5,
  W.mg_none_of X G L6,
  W.mg_none_of X G Kq,
  W.mg_none_of X G L7,
  W.mg_none_of X G Jy,
  W.mg_none_of X G Ks,
  ⟨_,W.mg_of X G Lp,⟨_,rfl⟩⟩,
  ⟨_,W.mg_of X G Kt,⟨_,rfl⟩⟩,
  ⟨_,W.mg_of X G Fx,⟨_,rfl⟩⟩,
  ⟨_,W.mg_of X G Fc,⟨_,rfl⟩⟩,
  ⟨_,W.mg_of X G Dk,⟨_,rfl⟩⟩,
  Jk.raw X G (λο ο ο ο ο ο=>FG (λο=>rfl)),
  I9.raw X G (λο ο ο ο ο ο=>GG (λο ο ο=>rfl)),
  Fy.raw X G (λο ο ο ο ο ο=>FG (λο=>rfl)),
  Em.raw X G (λο ο ο ο ο ο=>GG (λο ο ο=>rfl)),
  Fz.raw X G (λο ο ο ο ο ο=>FG (λο=>rfl)),
  Ku.raw X G (λο ο ο ο ο ο=>FG (λο=>rfl)),
  Jl.raw X G (λο ο ο ο ο ο=>kF (λο ο=>rfl)),
  Jz.raw X G (λο ο ο ο ο ο=>GG (λο ο ο=>rfl)),
  J1.raw X G (λο ο ο ο ο ο=>kF (λο ο=>rfl)),
  Kv.raw X G (λο ο ο ο ο ο=>FG (λο=>rfl)),
  Hs.raw X G (λο ο ο ο ο ο=>FG (λο=>rfl)),
  Ja.raw X G (λο ο ο ο ο ο=>kF (λο ο=>rfl)),
  Kw.raw X G (λο ο ο ο ο ο=>GG (λο ο ο=>rfl)),
  J2.raw X G (λο ο ο ο ο ο=>kF (λο ο=>rfl)),
  Lq.raw X G (λο ο ο ο ο ο=>kF (λο ο=>rfl)),
  Jm.raw X G (λο ο ο ο ο ο=>kF (λο ο=>rfl)),
  Jn.raw X G (λο ο ο ο ο ο=>lg (λο ο ο ο ο ο=>rfl)),
  Ky.raw X G (λο ο ο ο ο ο=>OJ (λο ο ο ο=>rfl)),
  Kz.raw X G (λο ο ο ο ο ο=>ng (λο ο ο ο ο ο ο=>rfl)),
  Jb,
  D5,
  En.raw X G I8 (λο ο ο ο ο ο=>FG (λο=>rfl)),
  ⟨_,_,_,⟨L8,L9,Jo⟩,GJ (st:=QI) Ma Mc Jo,(IJ 5 rfl λο us X_ hl=>bd5x (λο ο ο ο ο=>oB rfl (X_ _ _ Mb) rfl rfl rfl) us hl),.nil⟩,
  ⟨_,_,_,⟨L8,L9,Jo⟩,GJ (st:=QI) Ma Mc Jo,(IJ 4 rfl λο us X_ hl=>bd4x (λο ο ο ο=>oB rfl (X_ _ _ Mb) rfl rfl rfl) us hl),.cons rfl (.nil)⟩,
  Ce.raw (λο ο ο ο ο ο=>kF (λο ο=>rfl)),
  Dl.raw (λο ο ο ο ο ο=>kF (λο ο=>rfl)),
  C2.raw (λο ο ο ο ο ο=>GG (λο ο ο=>rfl)),
  Bw.raw (λο ο ο ο ο ο=>kF (λο ο=>rfl)),
  B4.raw (λο ο ο ο ο ο=>GG (λο ο ο=>rfl)),
  C3.raw (λο ο ο ο ο ο=>kF (λο ο=>rfl)),
  Cm.raw (λο ο ο ο ο ο=>OJ (λο ο ο ο=>rfl)),
  Eo.raw (λο ο ο ο ο ο=>FG (λο=>rfl)),
  Do.raw (λο ο ο ο ο ο=>FG (λο=>rfl)),
  Lr,
  F0,
  F4,
  F5,
  Ht.raw X G Lk (λο ο ο ο ο ο=>kF (λο ο=>rfl)),
  Ep.raw (λο ο ο ο ο ο=>FG (λο=>rfl)),
  Er.raw (λο ο ο ο ο ο=>kF (λο ο=>rfl)),
  ⟨_,_,_,⟨K0,K1,F6⟩,GJ (st:=OH) K2 K4 F6,(IJ 7 rfl λο us X_ hl=>bd7x (λο ο ο ο ο ο ο=>oB rfl (X_ _ _ K3) rfl rfl rfl) us hl),.nil⟩,
  ⟨_,_,_,⟨K0,K1,F6⟩,GJ (st:=OH) K2 K4 F6,(IJ 6 rfl λο us X_ hl=>bd6x (λο ο ο ο ο ο=>oB rfl (X_ _ _ K3) rfl rfl rfl) us hl),.cons ⟨_,rfl⟩ (.nil)⟩,
  ⟨_,_,_,⟨K0,K1,F6⟩,GJ (st:=OH) K2 K4 F6,(IJ 5 rfl λο us X_ hl=>bd5x (λο ο ο ο ο=>oB rfl (X_ _ _ K3) rfl rfl rfl) us hl),.cons rfl (.cons ⟨_,rfl⟩ (.nil))⟩,
  Gp.raw (λο ο ο ο ο ο=>OJ (λο ο ο ο=>rfl)),
  F7.raw (λο ο ο ο ο ο=>GG (λο ο ο=>rfl)),
  Cn.raw (λο ο ο ο ο ο=>kF (λο ο=>rfl)),
  Es.raw (λο ο ο ο ο ο=>kF (λο ο=>rfl)),
  Dp.raw (λο ο ο ο ο ο=>kF (λο ο=>rfl)),
  Dq.raw (λο ο ο ο ο ο=>kF (λο ο=>rfl)),
  Cf.raw (λο ο ο ο ο ο=>OJ (λο ο ο ο=>rfl)),
  Br.raw (λο ο ο ο ο ο=>OJ (λο ο ο ο=>rfl)),
  Hu.raw (λο ο ο ο ο ο=>kF (λο ο=>rfl)),
  Ls,
  F8,
  Gq,
  F9,
  Fe,
  Ff,
  Gr,
  Et,
  Fg,
  Hv.raw X G Lj (λο ο ο ο ο ο=>GG (λο ο ο=>rfl)),
  Eu.raw (λο ο ο ο ο ο=>FG (λο=>rfl)),
  Ev.raw (λο ο ο ο ο ο=>kF (λο ο=>rfl)),
  ⟨_,_,_,⟨K5,K6,Ga⟩,GJ (st:=PH) K7 K9 Ga,(IJ 7 rfl λο us X_ hl=>bd7x (λο ο ο ο ο ο ο=>oB rfl (X_ _ _ K8) rfl rfl rfl) us hl),.nil⟩,
  ⟨_,_,_,⟨K5,K6,Ga⟩,GJ (st:=PH) K7 K9 Ga,(IJ 6 rfl λο us X_ hl=>bd6x (λο ο ο ο ο ο=>oB rfl (X_ _ _ K8) rfl rfl rfl) us hl),.cons ⟨_,rfl⟩ (.nil)⟩,
  ⟨_,_,_,⟨K5,K6,Ga⟩,GJ (st:=PH) K7 K9 Ga,(IJ 5 rfl λο us X_ hl=>bd5x (λο ο ο ο ο=>oB rfl (X_ _ _ K8) rfl rfl rfl) us hl),.cons rfl (.cons ⟨_,rfl⟩ (.nil))⟩,
  Hw.raw (λο ο ο ο ο ο=>GG (λο ο ο=>rfl)),
  Gu.raw (λο ο ο ο ο ο=>OJ (λο ο ο ο=>rfl)),
  Fh.raw (λο ο ο ο ο ο=>kF (λο ο=>rfl)),
  C4.raw (λο ο ο ο ο ο=>FG (λο=>rfl)),
  Gv.raw (λο ο ο ο ο ο=>OJ (λο ο ο ο=>rfl)),
  Fi.raw (λο ο ο ο ο ο=>FG (λο=>rfl)),
  Cg.raw (λο ο ο ο ο ο=>GG (λο ο ο=>rfl)),
  B5.raw (λο ο ο ο ο ο=>GG (λο ο ο=>rfl)),
  C5.raw (λο ο ο ο ο ο=>GG (λο ο ο=>rfl)),
  D6.raw (λο ο ο ο ο ο=>kF (λο ο=>rfl)),
  C6.raw (λο ο ο ο ο ο=>GG (λο ο ο=>rfl)),
  Hx.raw (λο ο ο ο ο ο=>kF (λο ο=>rfl)),
  Hy.raw (λο ο ο ο ο ο=>FG (λο=>rfl)),
  Dr.raw (λο ο ο ο ο ο=>GG (λο ο ο=>rfl)),
  Lu,
  Fj,
  Ia,
  Gb,
  Gw,
  Gc,
  Gd,
  Ib.raw X G Li (λο ο ο ο ο ο=>OJ (λο ο ο ο=>rfl)),
  Ds.raw (λο ο ο ο ο ο=>FG (λο=>rfl)),
  Ew.raw (λο ο ο ο ο ο=>kF (λο ο=>rfl)),
  C7.raw (λο ο ο ο ο ο=>kF (λο ο=>rfl)),
  Ge.raw (λο ο ο ο ο ο=>kF (λο ο=>rfl)),
  Ic.raw (λο ο ο ο ο ο=>GG (λο ο ο=>rfl)),
  ⟨_,W.mg_of X G Gi,rfl⟩,
  ⟨W.mg_of X G Gi,Jp⟩,
  ⟨_,W.mg_of X G Ec,rfl⟩,
  ⟨W.mg_of X G Ec,Id⟩,
  ⟨_,W.mg_of X G Eb,rfl⟩,
  ⟨W.mg_of X G Eb,Ie⟩,
  ⟨_,W.mg_of X G Hq,rfl⟩,
  ⟨W.mg_of X G Hq,J3⟩,
  ⟨_,W.mg_of X G Hn,rfl⟩,
  ⟨W.mg_of X G Hn,J4⟩,
  ⟨_,W.mg_of X G Ea,rfl⟩,
  ⟨W.mg_of X G Ea,Ig⟩,
  ⟨_,W.mg_of X G Jf,rfl⟩,
  ⟨W.mg_of X G Jf,La⟩,
  ⟨_,W.mg_of X G D9,rfl⟩,
  ⟨W.mg_of X G D9,Ih⟩,
  ⟨_,W.mg_of X G Gh,rfl⟩,
  ⟨W.mg_of X G Gh,Jq⟩,
  ⟨_,W.mg_of X G Hm,rfl⟩,
  ⟨W.mg_of X G Hm,Ka⟩,
  Mm.law X G λο ο ο ο ο ο ο=>rfl⟩
section
variable {P:Program} {w:World} {K:W.Frag} {mg:Str->Option Value} {base:Heap} {A:RC}
def sp_is_whole:Sp:=λvs H Q ο=>∃x,vs=[x]/\Kn H x/\Q (.bl (mF x)) H
theorem og (T:fD K mg A):TD P w K mg base "is_whole" 1 ["thing"] [] sp_is_whole:=by
 refine T.Jg.have mf (λvs H Q E z=>?_) ?_
 ·obtain⟨x,rfl,_⟩:=z;rfl
 ·intro f cdv A' outer s H vs Q E hr z;obtain⟨x,rfl,hk,q⟩:=z;refine⟨_,(FC (uD (yI (rF VP rfl T.Bh OB (iC (eC 0) (iC (UP (n:="int") rfl T.Ld PyProof.Rows.boot_int) rC))) (BM (U1 (rF VP rfl T.Bh OB (iC (eC 0) (iC (UP (n:="bool") rfl T.Jt PyProof.Rows.boot_bool) rC)))))))),?_⟩;rfl';rw[<-vd hk] at q;refine⟨by decide,hk,?_⟩;cases e:EH "int" H x with
  |true=>rw[e] at q;exact xD ⟨by decide,hk,q⟩
  |false=>rw[e] at q;exact wD q
def sp_is_within:Sp:=λvs H Q ο=>∃x l h,vs=[x,.int l,.int h]/\Kn H x/\Q (.bl (UD x l h)) H
theorem wL (T:fD K mg A):TD P w K mg base "is_within" 2 ["thing","low","high"] [] sp_is_within:=by
 have Jr:=@og P w K mg base A T;refine T.Iv.have pf (λvs H Q E z=>?_) ?_
 ·obtain⟨x,l,h,rfl,_⟩:=z;rfl
 ·intro f cdv A' outer s H vs Q E hr z;obtain⟨x,l,h,rfl,hk,q⟩:=z;refine⟨_,(FC (uD (yI (DD Jr (hr.mono (by decide)) GC (iC (eC 0) rC)) (BM (Ob kJ kJ (eC 1) (eC 0) (eC 2)))))),?_⟩;unfold sp_is_whole;rfl';refine⟨hk,?_⟩;cases x with
  |int i=>
   refine xD ⟨i,rfl,?_⟩;rw[FH] at q;by_cases c:l<=i
   ·rw[nA c] at q;rw[iA c];exact⟨i,rfl,q⟩
   ·rw[HA c] at q;rw[fA c];exact q
  |_=>exact wD q
def sp_power_of_two:Sp:=λvs H Q ο=>∃e:Int,vs=[.int e]/\0<=e/\e<=62/\Q (.int (pw e)) H
theorem qg (T:fD K mg A):TD P w K mg base "power_of_two" 1 ["exponent"] [] sp_power_of_two:=by
 refine T.Fs.have jQ (λvs H Q E z=>?_) ?_
 ·obtain⟨e,rfl,_⟩:=z;rfl
 ·intro f cdv A' outer s H vs Q E hr z;obtain⟨e,rfl,h0,h1,q⟩:=z;refine⟨_,(CC (iD (i:=1) jQ.nd rfl (Or.inl rfl) yC)
   (CC (GH aB rfl (PQ rfl T.D0 (iC (eC 0) rC)) (wF (i:=2) jQ.nd rfl (Or.inl rfl)) (FC (iD (i:=1) jQ.nd rfl (Or.inl rfl) (BD uN (eC 1) yC))))
   (FC (uD (eC 1))))),?_⟩
  rfl';refine⟨⋯,⋯,nR (λi σ H'=>∃v,σ=[some (.int e),some (.int (pw (i:Int))),v]/\H'=H) ⟨_,rfl,rfl⟩ (λi σ H' hi=>?_) (λσ H'=>?_)⟩
  ·rintro⟨v,rfl,rfl⟩;rfl';have hb:=V4 (n:=i) (m:=62) ⋯;have hp:=ZP i;have e62:pw ((62:Nat):Int)=4611686018427387904:=by decide
   refine by first|exact (WP i).symm|exact⟨⋯,(WP i).symm⟩|(rw[WP];omega)|(trace_state;omega)
  ·rintro⟨v,rfl,rfl⟩;rfl';rw[show ((e.toNat:Nat):Int)=e by omega];exact q
def HG (x y z:V):Bool:=UD x 2 3&&UD y 1 8&&UD z 0 4
theorem rg {l f g:Int} (h:HG (.int l) (.int f) (.int g)=true):2<=l/\l<=3/\1<=f/\f<=8/\0<=g/\g<=4:=by
 unfold HG at h;simp only[FH,MA,SA] at h;omega
theorem sg {l f g:Int} (h:2<=l/\l<=3/\1<=f/\f<=8/\0<=g/\g<=4):HG (.int l) (.int f) (.int g)=true:=by
 unfold HG;simp only[FH,MA,SA];omega
def Y6 (N:Addr):Sp:=λvs H Q E=>∃x y z,vs=[x,y,z]/\Kn H x/\Kn H y/\Kn H z/\if HG x y z=true then Q .non H else E (.ref N) none H
theorem ug (T:fD K mg A):TD P w K mg base "check_measures" 3 ["levels","fan","grain"] [] (Y6 A.A3):=by
 have Am:=@wL P w K mg base A T;refine T.Ed.have qf (λvs H Q E z=>?_) ?_
 ·obtain⟨x,y,z,rfl,_⟩:=z;rfl
 ·intro f cdv A' outer s H vs Q E hr z;obtain⟨x,y,z,rfl,hx,hy,hz,q⟩:=z;refine⟨_,(CC (hE (iH (XG (DD Am (hr.mono (by decide)) GC (iC (eC 0) (iC yC (iC yC rC)))))) (FC (QG OG rfl T.Dj (iC LG rC))) kE)
   (CC (hE (iH (XG (DD Am (hr.mono (by decide)) GC (iC (eC 1) (iC yC (iC yC rC)))))) (FC (QG OG rfl T.Dj (iC LG rC))) kE)
   (FC (hE (iH (XG (DD Am (hr.mono (by decide)) GC (iC (eC 2) (iC yC (iC yC rC)))))) (FC (QG OG rfl T.Dj (iC LG rC))) kE)))),?_⟩
  unfold sp_is_within;rfl';unfold HG at q;simp only[hx,hy,hz,true_and];cases e1:UD x 2 3<;>cases e2:UD y 1 8<;>cases e3:UD z 0 4<;>simp only[e1,e2,e3,Bool.and_true,Bool.and_false,Bool.true_and,Bool.false_and,Bool.not_true,Bool.not_false,if_true,bC,XB, ↓reduceIte] at q ⊢<;>exact q
def cH (l f g:Int):List (Str×V):=nC "pages" (.int (pw (l * f))) (nC "boxes" (.int (pw g)) (nC "ways" (.int (pw f)) (nC "grain" (.int g) (nC "fan" (.int f) (nC "levels" (.int l) [])))))
def QH (C N:Addr):Sp:=λvs H Q E=>∃(p dx:Addr) (x y z:V),vs=[.ref p,x,y,z]/\H p=some (.ins C dx [])/\Kn H x/\Kn H y/\Kn H z/\
 if HG x y z=true then ∃l f g:Int,x=.int l/\y=.int f/\z=.int g/\Q .non (jC H p (.ins C dx (cH l f g))) else E (.ref N) none H
theorem xL (T:fD K mg A):XE P w K mg base "Shape" A.Ae 4 ["self","levels","fan","grain"] [] (QH A.Ae A.A3):=by
 have Ex:=@ug P w K mg base A T;have Bm:=@qg P w K mg base A T;refine T.Hj.have rf (λvs H Q E z=>?_) ?_
 ·obtain⟨p,dx,x,y,z,rfl,_⟩:=z;rfl
 ·intro f cdv A' outer s H vs Q E hr z;obtain⟨p,dx,x,y,z,rfl,hp,hx,hy,hz,q⟩:=z;refine⟨_,(CC (GE (DD Ex (hr.mono (by decide)) GC (iC (eC 1) (iC (eC 2) (iC (eC 3) rC)))))
   (CC (xF (eC 0) (eC 1) rfl)
   (CC (xF (eC 0) (eC 2) rfl)
   (CC (xF (eC 0) (eC 3) rfl)
   (CC (xF (eC 0) (DD Bm (hr.mono (by decide)) GC (iC (eC 2) rC)) rfl)
   (CC (xF (eC 0) (DD Bm (hr.mono (by decide)) GC (iC (eC 3) rC)) rfl)
   (FC (xF (eC 0) (DD Bm (hr.mono (by decide)) GC (iC (BD uN (eC 1) (eC 2)) rC)) rfl)))))))),?_⟩
  unfold Y6 sp_power_of_two;rfl';simp only[hx,hy,hz,hp,T.Au,T.B0,T.Dh,T.Cd,T.Cs,T.A1,T.Aw,true_and];rfl';simp only[T.Au,T.B0,T.Dh,T.Cd,T.Cs,T.A1,T.Aw,true_and];refine UK (λhg=>?_) (λhg=>?_)
  ·rw[iA hg] at q;obtain⟨l,f',g,rfl,rfl,rfl,q⟩:=q;have b:=rg hg;have m:=rR b.1 b.2.1 b.2.2.1 b.2.2.2.1;rfl'
   repeat' (refine And.intro ?_ ?_)
   all_goals first|omega|exact q|(refine KA (?_:_ < 9) (by decide);repeat (first|exact Nat.zero_lt_succ _|refine W4 ?_))
  ·rw[fA hg] at q;exact q
theorem wT {l f g:Int}:(cH l f g).lookup ("pages":Str)=some (.int (pw (l * f))):=by rfl
theorem oQ {l f g:Int}:(cH l f g).lookup ("boxes":Str)=some (.int (pw g)):=by rfl
theorem nI {l f g:Int} {m:Str} (h:¬m∈(["levels","fan","grain","ways","boxes","pages"]:List Str)):(cH l f g).lookup m=none:=by
 simp only[vA,fB,or_false,not_or] at h;unfold cH;simp only[EM,h,bC]
 rfl
def tD (C:Addr) (H:Hp) (p:Addr) (l f g:Int):Prop:=∃dx,H p=some (.ins C dx (cH l f g))
theorem tD.same {C:Addr} {H H':Hp} {p:Addr} {l f g:Int} (h:tD C H p l f g) (s:uC H H'):tD C H' p l f g:=let ⟨dx,e⟩:=h;⟨dx,s _ _ e⟩
def Z6 (C:Addr):Sp:=λvs H Q ο=>∃(p:Addr) (x l f g:Int),vs=[.ref p,.int x]/\tD C H p l f g/\Q (.bl (decide (0<=x)&&decide (x<=pw (l * f) - 1))) H
theorem nO (T:fD K mg A):AC P w K mg base A.Ae "has_page" 3 ["self","page"] [] (Z6 A.Ae):=by
 have Am:=@wL P w K mg base A T;refine T.El.have uf (λvs H Q E z=>?_) ?_
 ·obtain⟨p,x,l,f,g,rfl,_⟩:=z;rfl
 ·intro f cdv A' outer s H vs Q E hr z;obtain⟨p,x,l,f',g,rfl,⟨dx,hp⟩,q⟩:=z;refine⟨_,(FC (uD (DD Am (hr.mono (by decide)) GC (iC (eC 1) (iC yC (iC (BD tH (cD (eC 0) rfl) yC) rC)))))),?_⟩;unfold sp_is_within;rfl';simp only[hp,T.Au,T.Aw,true_and];rfl';simp only[T.Au,T.Aw,wT,true_and];rfl';exact q
def yE (x m p:Int):Bool:=decide (0<=x/\x < p/\1<=m/\m<=64/\x+m - 1 < p)
def a7 (C:Addr):Sp:=λvs H Q ο=>∃(p:Addr) (x m l f g:Int),vs=[.ref p,.int x,.int m]/\tD C H p l f g/\Q (.bl (yE x m (pw (l * f)))) H
theorem yL (T:fD K mg A):AC P w K mg base A.Ae "fits" 4 ["self","first","many"] [] (a7 A.Ae):=by
 have Am:=@wL P w K mg base A T;have Bx:=@nO P w K mg base A T;refine T.Hl.have xf (λvs H Q E z=>?_) ?_
 ·obtain⟨p,x,m,l,f,g,rfl,_⟩:=z;rfl
 ·intro f cdv A' outer s H vs Q E hr z;obtain⟨p,x,m,l,f',g,rfl,hS,q⟩:=z;refine⟨_,(FC (uD (yI (HD (eC 0) T.Au Bx (hr.mono (by decide)) GC (iC (eC 1) rC)) (yI (DD Am (hr.mono (by decide)) GC (iC (eC 2) (iC yC (iC (QN rfl T.D3) rC)))) (BM (HD (eC 0) T.Au Bx (hr.mono (by decide)) GC (iC (BD tH (BD aG (eC 1) (eC 2)) yC) rC))))))),?_⟩;unfold sp_is_within Z6;rfl';obtain⟨dx,hp⟩:=id hS;simp only[hp];rfl';refine⟨nI ∅,l,f',g,hS,?_⟩;generalize hN:pw (l * f')=N at q ⊢;by_cases c:0<=x/\x<=N - 1
  ·rw[nA c.1,nA c.2];refine xD ?_;rw[FH];by_cases d:1<=m/\m<=64
   ·rw[nA d.1,nA d.2];refine xD ⟨nI ∅,l,f',g,hS,?_⟩;have e2:(decide (0<=x+m - 1)&&decide (x+m - 1<=pw (l * f') - 1))=yE x m N:=by
     unfold yE;rw[eB];simp only[MA,SA];omega
    rw[e2];exact q
   ·have e:(decide (1<=m)&&decide (m<=64))=false:=by
     rw[Bool.eq_false_iff];simp only[ne_eq,MA,SA];exact d
    rw[e];refine wD ?_;have e2:yE x m N=false:=HA ⋯;rw[e2] at q;exact q
  ·have e:(decide (0<=x)&&decide (x<=N - 1))=false:=by
    rw[Bool.eq_false_iff];simp only[ne_eq,MA,SA];exact c
   rw[e];refine wD ?_;have e2:yE x m N=false:=HA ⋯;rw[e2] at q;exact q
theorem vg {a b c:Int}:(decide (a<=b)&&decide (b<=c - 1))=decide (a<=b/\b < c):=by
 rw[eB];simp only[MA,SA];omega
def gd (l f g:Int):Prop:=2<=l/\l<=3/\1<=f/\f<=8/\0<=g/\g<=4
theorem oI {l f g:Int} (h:gd l f g):(1<=pw g/\pw g<=16)/\(1<=pw (l * f)/\pw (l * f)<=16777216):=by
 obtain⟨h1,h2,h3,h4,h5,h6⟩:=h;have m:=rR h1 h2 h3 h4;exact⟨⟨ZP _,Sd h6⟩,ZP _,qR m.2⟩
def PJ (C:Addr):Sp:=λvs H Q ο=>∃(p:Addr) (x l f g:Int),vs=[.ref p,.int x]/\tD C H p l f g/\gd l f g/\Q (.bl (decide (0<=x/\x < pw (l * f) * pw g))) H
theorem xT (T:fD K mg A):AC P w K mg base A.Ae "has_address" 3 ["self","address"] [] (PJ A.Ae):=by
 have Am:=@wL P w K mg base A T;refine T.C1.have vf (λvs H Q E z=>?_) ?_
 ·obtain⟨p,x,l,f,g,rfl,_⟩:=z;rfl
 ·intro f cdv A' outer s H vs Q E hr z;obtain⟨p,x,l,f',g,rfl,hS,hg,q⟩:=z;refine⟨_,(FC (uD (DD Am (hr.mono (by decide)) GC (iC (eC 1) (iC yC (iC (BD tH (BD uN (cD (eC 0) rfl) (cD (eC 0) rfl)) yC) rC)))))),?_⟩;unfold sp_is_within;obtain⟨dx,hp⟩:=id hS;rfl';simp only[hp];rfl';simp only[T.Au,T.Aw,T.A1,wT,oQ,true_and];rfl';have b:=oI hg;refine⟨.inr ⟨⋯,⋯⟩,?_⟩;rw[FH,vg];exact q
def QJ (C O:Addr):Sp:=λvs H Q E=>∃(p:Addr) (x l f g:Int),vs=[.ref p,.int x]/\tD C H p l f g/\gd l f g/\
 if 0<=x/\x < pw (l * f) * pw g then ∀t,H t=none->Q (.ref t) (jC H t (.tup [.int (x / pw g),.int (x % pw g)])) else E (.ref O) none H
theorem yT (T:fD K mg A):AC P w K mg base A.Ae "parted" 4 ["self","address"] [] (QJ A.Ae A.Ar):=by
 have C8:=@xT P w K mg base A T;refine T.Fv.have wf (λvs H Q E z=>?_) ?_
 ·obtain⟨p,x,l,f,g,rfl,_⟩:=z;rfl
 ·intro f cdv A' outer s H vs Q E hr z;obtain⟨p,x,l,f',g,rfl,hS,hg,q⟩:=z;refine⟨_,(CC (hE (iH (XG (HD (eC 0) T.Au C8 (hr.mono (by decide)) GC (iC (eC 1) rC)))) (FC (QG OG rfl T.D7 (iC LG rC))) kE)
   (FC (uD (NG (iC (BD RQ (eC 1) (cD (eC 0) rfl)) (iC (BD eI (eC 1) (cD (eC 0) rfl)) rC)))))),?_⟩
  unfold PJ;obtain⟨dx,hp⟩:=id hS;rfl';simp only[hp];rfl';refine⟨nI ∅,l,f',g,hS,hg,?_⟩;simp only[T.Au,T.Aw,T.A1,wT,oQ,true_and];rfl';have b:=oI hg;by_cases c:0<=x/\x < pw (l * f') * pw g
  ·rw[iA c] at q;rw[nA c];refine wD ⟨⋯,⋯,⋯,q⟩
  ·rw[fA c] at q;rw[HA c];exact xD q
def b7 (K:W.Frag) (a:Addr) (ns:List Int):Sp:=λvs H Q ο=>∃(k:Int),vs=[.ref a,.int k]/\QC K H a (ns.map V.int)/\0<=k/\Q (.int (ns.getD k.toNat 0)) H
theorem zL (T:fD K mg A) (a:Addr) (ns:List Int):TD P w K mg base "_law_cell_at" 1 ["_law_script","_law_k"] [] (b7 K a ns):=by
 refine T.Iw.have ig (λvs H Q E z=>?_) ?_
 ·obtain⟨k,rfl,_⟩:=z;rfl
 ·intro f cdv A' outer s H vs Q E hr z;obtain⟨k,rfl,hs,hk,q⟩:=z;refine⟨_,(CC (hE (pE vN (eC 1) (rF oJ rfl T.A7 PySem.boot_len (iC (eC 0) rC)) (wC _)) (FC (uD (GD jI (eC 0) (eC 1) (λο ο=>rfl)))) kE)
   (FC (uD yC))),?_⟩
  rfl';refine⟨ns.length,.inl ⟨_,hs,by simp⟩,?_⟩;by_cases c:k < (ns.length:Int)
  ·rw[iA c];refine⟨_,hs,.int (ns.getD k.toNat 0),?_,q⟩;have hlt:k.toNat < ns.length:=⋯;have e:oG (ns.map V.int) ((k.toNat:Nat):Int)=some (.int (ns.getD k.toNat 0)):=FI (by simp[hlt]);rw[show ((k.toNat:Nat):Int)=k by omega] at e;exact e
  ·rw[fA c];have hge:ns.length<=k.toNat:=⋯;rw[show ns.getD k.toNat 0=0 by simp[List.getD,hge]] at q;exact q
theorem SH {H H':Hp} {t:Addr} {o:HO} (s:uC H H') (h:H t=none):uC H (jC H' t o):=λb u e=>by
 rw[vC (bD e h)];exact s b u e
theorem VF {H H':Hp} {p:Addr} (s:uC H H') (h:H' p=none):H p=none:=by
 cases e:H p with
 |none=>rfl
 |some o=>rw[s p o e] at h;cases h
set_option genInjectivity false in
structure Rn where
 f:Int
 m:Int
 r:Int
 t:Option (Int×Int)
 deriving DecidableEq
def aD (r:Rn):Int:=r.f+r.m
def tf (r:Rn) (p:Int):Option (Int×Int):=r.t.map λt=>(t.1,t.2+p - r.f)
def UE (r:Rn) (lo hi:Int):Rn:=⟨max r.f lo,min (aD r) hi - max r.f lo,r.r,tf r (max r.f lo)⟩
def go (r s:Rn):Bool:=decide (aD r=s.f)&&decide (r.r=s.r)&&decide (tf r s.f=s.t)
def zE (acc:List Rn) (r:Rn):List Rn:=
 match acc.getLast? with
 |none=>acc++[r]
 |some l=>if go l r=true then acc.dropLast++[⟨l.f,l.m+r.m,l.r,l.t⟩] else acc++[r]
def jn (rs:List Rn):List Rn:=rs.foldl zE []
def pb (rs:List Rn) (p:Int):Nat:=(rs.takeWhile λr=>decide (aD r<=p)).length
def rE (rs:List Rn) (lo hi:Nat):List Rn:=(rs.take hi).drop lo
def lG (rs:List Rn) (a n:Int):List Rn:=((rE rs (pb rs a) (pb rs (a+n)+1)).filter λr=>decide (r.f < a+n)).map λr=>UE r a (a+n)
def AL (rs:List Rn) (a n:Int) (parts:List Rn):List Rn:=
 let near:=rE rs (pb rs (a - 1)) (pb rs (a+n)+1)
 rs.take (pb rs (a - 1))++jn ((near.filter λr=>decide (r.f < a)).map (λr=>UE r r.f a)++parts++(near.filter λr=>decide (aD r > a+n)).map (λr=>UE r (a+n) (aD r)))++rs.drop (pb rs (a+n)+1)
def pm:List Rn->Int->Option (Int×Option (Int×Int))
 |[],_=>none
 |r::rs,p=>if r.f<=p/\p < aD r then some (r.r,tf r p) else pm rs p
def qD (rs:List Rn):Prop:=rs.Pairwise (λa b=>aD a<=b.f)/\∀r∈rs,0 < r.m
def zT:List Rn->Prop
 |[]=>True
 |[_]=>True
 |a::b::r=>go a b=false/\zT (b::r)
theorem qD.tail {r:Rn} {rs:List Rn} (h:qD (r::rs)):qD rs:=⟨(List.pairwise_cons.mp h.1).2,λx hx=>h.2 x (xA _ hx)⟩
theorem qD.head {r:Rn} {rs:List Rn} (h:qD (r::rs)):∀s∈rs,aD r<=s.f:=(List.pairwise_cons.mp h.1).1
theorem AT {p:Int}:∀{rs:List Rn},(∀r∈rs,¬(r.f<=p/\p < aD r))->pm rs p=none
 |[],_=>rfl
 |r::rs,h=>by
  unfold pm;rw[fA (h r qA)];exact AT λs hs=>h s (xA _ hs)
theorem wg {p:Int} {rs:List Rn} (h:∀r∈rs,p < r.f):pm rs p=none:=AT λr hr z=>by have:=h r hr;omega
theorem xg {p:Int} {rs:List Rn} (h:∀r∈rs,aD r<=p):pm rs p=none:=AT λr hr z=>by have:=h r hr;omega
theorem CT {p:Int}:∀{rs ss:List Rn},pm (rs++ss) p=(pm rs p).or (pm ss p)
 |[],ss=>by rw[List.nil_append];rfl
 |r::rs,ss=>by
  show (if r.f<=p/\p < aD r then some (r.r,tf r p) else pm (rs++ss) p)=(if r.f<=p/\p < aD r then some (r.r,tf r p) else pm rs p).or (pm ss p);by_cases c:r.f<=p/\p < aD r
  ·rw[iA c,iA c];rfl
  ·rw[fA c,fA c];exact CT
theorem oO {r:Rn}:tf r r.f=r.t:=by
 unfold tf;cases r.t with
 |none=>rfl
 |some t=>simp
theorem yg {r:Rn} {p q:Int} {m x:Int}:tf ⟨p,m,x,tf r p⟩ q=tf r q:=by
 unfold tf;cases r.t with
 |none=>rfl
 |some t=>simp;omega
def sHd (a b:Rn):Prop:=a.f=b.f/\a.r=b.r/\a.t=b.t
def sLs (a b:Rn):Prop:=aD a=aD b/\a.r=b.r/\∀p,tf a p=tf b p
theorem zg {xs ys:List Rn} (h:qD (xs++ys)):qD xs:=⟨(xB.mp h.1).1,λr hr=>h.2 r (pA _ hr)⟩
theorem DT {xs ys:List Rn} (h:qD (xs++ys)):qD ys:=⟨(xB.mp h.1).2.1,λr hr=>h.2 r (eA _ hr)⟩
theorem Ng {xs ys:List Rn} (h:qD (xs++ys)):∀x∈xs,∀y∈ys,aD x<=y.f:=(xB.mp h.1).2.2
theorem c7 {α:Type}:∀{l:List α} {a:α},l.getLast?=some a->∃i,l=i++[a]
 |[],_,h=>by cases h
 |[x],a,h=>⟨[],by cases h;rfl⟩
 |x::y::l,a,h=>by
  rw[List.getLast?_cons_cons] at h;obtain⟨i,e⟩:=c7 h;exact⟨x::i,by rw[e];rfl⟩
theorem ET {rs:List Rn} (o:qD rs) (p:Int):∃A R,rs=A++R/\pb rs p=A.length/\(∀x∈A,aD x<=p)/\(∀x∈R,p < aD x):=by
 refine⟨rs.takeWhile λr=>decide (aD r<=p),rs.dropWhile λr=>decide (aD r<=p),(List.takeWhile_append_dropWhile).symm,rfl,λx hx=>?_,λx hx=>?_⟩
 ·induction rs with
  |nil=>cases hx
  |cons y rs ih=>
   rw[List.takeWhile_cons] at hx;by_cases c:aD y<=p
   ·rw[nA c] at hx;simp only[if_true] at hx;rcases vA.mp hx with rfl|hx
    ·exact c
    ·exact ih o.tail hx
   ·rw[HA c] at hx;simp at hx
 ·induction rs with
  |nil=>cases hx
  |cons y rs ih=>
   rw[List.dropWhile_cons] at hx;by_cases c:aD y<=p
   ·rw[nA c] at hx;simp only[if_true] at hx;exact ih o.tail hx
   ·rw[HA c] at hx;simp only[XB,bC] at hx;rcases vA.mp hx with rfl|hx
    ·omega
    ·have h1:=o.head x hx;have h2:=o.2 x (xA _ hx);unfold aD at *;omega
theorem BL {rs:List Rn} (o:qD rs) {p q:Int} (h:p<=q):∃A M R,rs=A++M++R/\pb rs p=A.length/\pb rs q=A.length+M.length/\(∀x∈A,aD x<=p)/\(∀x∈M,p < aD x/\aD x<=q)/\(∀x∈R,q < aD x):=by
 obtain⟨A,R1,e1,h1,h2,h3⟩:=ET o p;obtain⟨M,R,e2,h4,h5,h6⟩:=ET (rs:=R1) (by rw[e1] at o;exact DT o) q;refine⟨A,M,R,by rw[e1,e2,zB],h1,?_,h2,λx hx=>⟨h3 x (by rw[e2];exact pA _ hx),h5 x hx⟩,h6⟩;have:pb rs q=A.length+pb R1 q:=by
  rw[e1];clear e1 h1 e2 h4 o
  induction A with
  |nil=>simp
  |cons y A ih=>
   have hy:=h2 y qA;unfold pb at *;rw[List.cons_append,List.takeWhile_cons,nA ⋯];simp only[if_true,ZA];rw[ih λx hx=>h2 x (xA _ hx)];omega
 rw[this,h4]
theorem CL {A M R:List Rn} {n m:Nat} (hn:n=A.length) (hm:m=A.length+M.length+1):rE (A++M++R) n m=M++R.take 1:=by
 unfold rE;rw[hn,hm,zB,List.take_append,List.take_of_length_le ⋯,List.drop_append,List.drop_length,Nat.sub_self,List.drop_zero,List.nil_append,
  List.take_append,List.take_of_length_le ⋯]
 congr 2;omega
theorem Og {N:List Rn} {q:Rn->Bool} {g:Rn->Rn} (o:qD N) (h1:∀x∈N,q x=true->0 < (g x).m) (h2:∀x∈N,∀y∈N,q x=true->q y=true->aD x<=y.f->aD (g x)<=(g y).f):qD ((N.filter q).map g):=by
 refine⟨?_,λr hr=>?_⟩
 ·rw[CB];have h3:((N.filter q)).Pairwise λa b=>aD a<=b.f:=o.1.filter q;refine List.Pairwise.imp_of_mem (λ{x y} hx hy h=>?_) h3;have hx:=AA.mp hx;have hy:=AA.mp hy;exact h2 x hx.1 y hy.1 hx.2 hy.2 h
 ·obtain⟨x,hx,rfl⟩:=bA.mp hr;have hx:=AA.mp hx;exact h1 x hx.1 hx.2
theorem d7 {r:Rn} {a e:Int} (h1:a < aD r) (h2:r.f < e) (h3:a < e) (h0:0 < r.m):a<=(UE r a e).f/\aD (UE r a e)<=e/\0 < (UE r a e).m:=by
 have e1:(UE r a e).f=max r.f a:=rfl;have e2:(UE r a e).m=min (aD r) e - max r.f a:=rfl;have e3:aD (UE r a e)=max r.f a+(min (aD r) e - max r.f a):=rfl;rw[e3,e2,e1];unfold aD at *;omega
theorem RJ {a e p:Int}:∀{N:List Rn},(∀x∈N,0 < x.m)->pm ((N.filter λr=>decide (r.f < e)).map λr=>UE r a e) p=if a<=p/\p < e then pm N p else none
 |[],_=>by simp[pm]
 |x::N,h=>by
  have ih:=RJ (a:=a) (e:=e) (p:=p) (N:=N) λy hy=>h y (xA _ hy);have hx:=h x qA;rw[uB];by_cases c:x.f < e
  ·rw[nA c];simp only[if_true,yA];show (if max x.f a<=p/\p < max x.f a+(min (aD x) e - max x.f a) then some (x.r,tf ⟨_,_,_,tf x (max x.f a)⟩ p) else pm _ p)=if a<=p/\p < e then (if x.f<=p/\p < aD x then some (x.r,tf x p) else pm N p) else none
   rw[ih,yg];by_cases c2:a<=p/\p < e
   ·rw[iA c2,iA c2];by_cases c3:x.f<=p/\p < aD x
    ·rw[iA c3,iA ⋯]
    ·rw[fA c3,fA ⋯]
   ·rw[fA c2,fA c2,fA ⋯]
  ·rw[HA c];simp only[XB,bC];rw[ih];show _=if a<=p/\p < e then (if x.f<=p/\p < aD x then some (x.r,tf x p) else pm N p) else none
   by_cases c2:a<=p/\p < e
   ·rw[iA c2,iA c2,fA ⋯]
   ·rw[fA c2,fA c2]
theorem DL {rs:List Rn} {a n:Int} (o:qD rs) (hn:0 < n):qD (lG rs a n)/\(∀x∈lG rs a n,a<=x.f/\aD x<=a+n)/\∀p,pm (lG rs a n) p=if a<=p/\p < a+n then pm rs p else none:=by
 obtain⟨A,M,R,e,h1,h2,hA,hM,hR⟩:=BL o (p:=a) (q:=a+n) ⋯;have eN:rE rs (pb rs a) (pb rs (a+n)+1)=M++R.take 1:=by
  rw[h1,h2]
  conv=>lhs;rw[e]
  exact CL rfl rfl
 unfold lG;rw[eN];have hRs:R=R.take 1++R.drop 1:=(List.take_append_drop 1 R).symm;have o3:qD (A++((M++R.take 1)++R.drop 1)):=by rw[zB M,<-hRs,<-zB,<-e];exact o
 have hN:∀x∈M++R.take 1,a < aD x:=λx hx=>by
  rcases dA.mp hx with hx|hx
  ·exact (hM x hx).1
  ·have:=hR x (List.mem_of_mem_take hx);omega
 have hB:∀x∈R.drop 1,a+n < x.f:=λx hx=>by
  cases R with
  |nil=>cases hx
  |cons z B=>
   have h5:=Ng (DT o3) z (by simp) x hx;have:=hR z qA;omega
 have oN:qD (M++R.take 1):=zg (DT o3);have ep:∀p,pm rs p=(pm A p).or ((pm (M++R.take 1) p).or (pm (R.drop 1) p)):=λp=>by
  rw[<-CT,<-CT,zB M,<-hRs,<-zB,<-e]
 generalize M++R.take 1=N at *;generalize R.drop 1=B at *;refine⟨Og oN (λx hx c=>?_) (λx hx y hy c1 c2 h=>?_),λx hx=>?_,λp=>?_⟩
 ·exact (d7 (hN x hx) (by simpa using c) ⋯ (oN.2 x hx)).2.2
 ·show max x.f a+(min (aD x) (a+n) - max x.f a)<=max y.f a;omega
 ·obtain⟨y,hy,rfl⟩:=bA.mp hx;have hy:=AA.mp hy;have:=d7 (hN y hy.1) (by simpa using hy.2) (show a < a+n by omega) (oN.2 y hy.1);exact⟨this.1,this.2.1⟩
 ·rw[RJ λx hx=>oN.2 x hx,ep p];by_cases c:a<=p/\p < a+n
  ·rw[iA c,iA c,xg (rs:=A) λr hr=>by have:=hA r hr;omega,wg (rs:=B) λr hr=>by have:=hB r hr;omega];cases pm N p<;>rfl
  ·rw[fA c,fA c]
theorem Qg {rs:List Rn} {p:Int} (o:qD rs):(lG rs p 1=[]/\pm rs p=none)\/∃x,lG rs p 1=[x]/\pm rs p=some (x.r,x.t):=by
 obtain⟨h1,h2,h3⟩:=DL (a:=p) o (show (0:Int) < 1 by decide);cases e:lG rs p 1 with
 |nil=>
  refine .inl ⟨rfl,?_⟩;have:=h3 p;rw[e,iA ⋯] at this;exact this.symm
 |cons x L=>
  rw[e] at h1 h2 h3;have hx:=h2 x qA;have px:=h1.2 x qA;have ex:aD x=x.f+x.m:=rfl;have hL:L=[]:=by
   cases L with
   |nil=>rfl
   |cons y L=>
    have h4:=h1.head y qA;have h5:=h2 y (by simp);have h6:=h1.2 y (by simp);have ey:aD y=y.f+y.m:=rfl;omega
  subst hL;refine .inr ⟨x,rfl,?_⟩;have:=h3 p;rw[iA ⋯] at this;rw[<-this];have hf:x.f=p:=⋯;show (if x.f<=p/\p < aD x then some (x.r,tf x p) else none)=_;rw[iA ⋯,<-hf,oO]
theorem pO {rs:List Rn} {p:Int}:pb rs p<=rs.length:=by unfold pb;exact (List.takeWhile_prefix _).length_le
theorem qO {rs:List Rn} (o:qD rs) {p:Int} {i:Nat} {x:Rn} (h:rs[i]?=some x):i < pb rs p↔aD x<=p:=by
 obtain⟨A,R,e,h1,h2,h3⟩:=ET o p;rw[h1];rw[e] at h;constructor
 ·intro hi;rw[List.getElem?_append_left hi] at h;exact h2 x (JA h)
 ·intro hx;rcases Nat.lt_or_ge i A.length with hi|hi
  ·exact hi
  ·rw[lB hi] at h;have:=h3 x (JA h);omega
def rD (H:Hp) (v:V):Option (Int×Int)->Prop
 |none=>v=.non
 |some (b,k)=>∃a,v=.ref a/\H a=some (.tup [.int b,.int k])
def VC (H:Hp) (v:V) (r:Rn):Prop:=∃a tv,v=.ref a/\H a=some (.tup [.int r.f,.int r.m,.int r.r,tv])/\rD H tv r.t
theorem rD.same {H H':Hp} {v:V}:∀{t:Option (Int×Int)},rD H v t->uC H H'->rD H' v t
 |none,h,_=>h
 |some (b,k),⟨a,e,h⟩,s=>⟨a,e,s _ _ h⟩
theorem VC.same {H H':Hp} {v:V} {r:Rn} (h:VC H v r) (s:uC H H'):VC H' v r:=let ⟨a,tv,e,h1,h2⟩:=h;⟨a,tv,e,s _ _ h1,h2.same s⟩
theorem rD.same2 {H H':Hp} {a:Addr} {xs:List V} {o:HO} {v:V} (hx:H' a=some (.lst xs)):∀{t:Option (Int×Int)},rD H' v t->rD (jC H' a o) v t
 |none,h=>h
 |some (b,k),⟨c,e,h⟩=>⟨c,e,by rw[vC (LC h hx λz=>nomatch z)];exact h⟩
theorem VC.same2 {H H':Hp} {a:Addr} {xs:List V} {o:HO} {v:V} {r:Rn} (h:VC H' v r) (hx:H' a=some (.lst xs)) (_:uC H H'):VC (jC H' a o) v r:=
 let ⟨c,tv,e,h1,h2⟩:=h
 ⟨c,tv,e,by rw[vC (LC h1 hx λz=>nomatch z)];exact h1,rD.same2 (H:=H) hx h2⟩
noncomputable abbrev oC (H:Hp):List V->List Rn->Prop:=Paired (VC H)
theorem oC.same {H H':Hp} {vs:List V} {rs:List Rn} (h:oC H vs rs) (s:uC H H'):oC H' vs rs:=Paired.mapP h λο ο q=>q.same s
theorem oC.same2 {H H':Hp} {a:Addr} {xs:List V} {o:HO} {vs:List V} {rs:List Rn} (h:oC H' vs rs) (hx:H' a=some (.lst xs)) (s:uC H H'):oC (jC H' a o) vs rs:=Paired.mapP h λο ο q=>q.same2 hx s
theorem RI {α β:Type} {F:α->β->Prop}:∀{xs:List α} {ys:List β} {i:Nat} {x:α},Paired F xs ys->xs[i]?=some x->∃y,ys[i]?=some y/\F x y
 |_,_,_,_,.nil,e=>by simp at e
 |_,_,0,_,.cons r _,e=>by simp at e;subst e;exact⟨_,rfl,r⟩
 |_,_,i+1,x,.cons _ t,e=>by
  obtain⟨u,h1,h2⟩:=RI (i:=i) (x:=x) t (by simpa using e);exact⟨u,by simpa using h1,h2⟩
theorem TH {α β:Type} {F:α->β->Prop}:∀{xs:List α} {ys:List β} {zs:List α} {ws:List β},Paired F xs ys->Paired F zs ws->Paired F (xs++zs) (ys++ws)
 |_,_,_,_,.nil,h=>h
 |_,_,_,_,.cons r t,h=>.cons r (TH t h)
theorem pQ {α β:Type} {F:α->β->Prop}:∀{xs:List α} {ys:List β} (n:Nat),Paired F xs ys->Paired F (xs.take n) (ys.take n)
 |_,_,0,_=>.nil
 |_,_,_+1,.nil=>.nil
 |_,_,n+1,.cons r t=>.cons r (pQ n t)
theorem qQ {α β:Type} {F:α->β->Prop}:∀{xs:List α} {ys:List β} (n:Nat),Paired F xs ys->Paired F (xs.drop n) (ys.drop n)
 |_,_,0,h=>h
 |_,_,_+1,.nil=>.nil
 |_,_,n+1,.cons _ t=>qQ n t
def KM (K:W.Frag):Sp:=λvs H Q ο=>∃v r,vs=[v]/\VC H v r/\Q (.int (aD r)) H
theorem rO (T:fD K mg A):TD P w K mg base "end_of" 1 ["run"] [] (KM K):=by
 refine T.Ke.have zf (λvs H Q E z=>?_) ?_
 ·obtain⟨v,r,rfl,_⟩:=z;rfl
 ·intro f cdv A' outer s H vs Q E hr z;obtain⟨v,r,rfl,⟨a,tv,rfl,ha,ht⟩,q⟩:=z;refine⟨_,(FC (uD (BD aG (GD fE (eC 0) yC (λο ο=>rfl)) (GD fE (eC 0) yC (λο ο=>rfl))))),?_⟩;rfl';exact⟨_,ZC.of ha,_,rfl,_,ZC.of ha,_,rfl,_,rfl,_,rfl,q⟩
def rQ (K:W.Frag):Sp:=λvs H Q ο=>∃v r p,vs=[v,.int p]/\VC H v r/\∀u H',uC H H'->rD H' u (tf r p)->Q u H'
theorem FT (T:fD K mg A):TD P w K mg base "tie_from" 1 ["run","page"] [] (rQ K):=by
 refine T.Jh.have r6 (λvs H Q E z=>?_) ?_
 ·obtain⟨v,r,p,rfl,_⟩:=z;rfl
 ·intro f cdv A' outer s H vs Q E hr z;obtain⟨v,r,p,rfl,⟨a,tv,rfl,ha,ht⟩,q⟩:=z;refine⟨_,(CC (iD (i:=2) r6.nd rfl (Or.inl rfl) (GD fE (eC 0) yC (λο ο=>rfl)))
   (CC (hE (pE fI (eC 2) ZF (wC _)) (FC (uD ZF)) kE)
   (FC (uD (NG (iC (GD fE (eC 2) yC (λο ο=>rfl)) (iC (BD tH (BD aG (GD fE (eC 2) yC (λο ο=>rfl)) (eC 1)) (GD fE (eC 0) yC (λο ο=>rfl))) rC))))))),?_⟩
  rfl';refine⟨_,ZC.of ha,_,rfl,?_⟩;cases e:r.t with
  |none=>
   rw[e] at ht;have ht:tv=.non:=ht;subst ht;rw[iA rfl];refine q _ _ LD ?_;unfold tf;rw[e]
   rfl
  |some t=>
   obtain⟨b,k⟩:=t;rw[e] at ht;obtain⟨c,rfl,hc⟩:=ht;rw[fA (λz=>nomatch z)];rfl';refine⟨_,ZC.of hc,_,rfl,_,ZC.of hc,_,rfl,_,rfl,_,ZC.of ha,_,rfl,_,rfl,λp2 hp2=>?_⟩;refine q _ _ (bE LD hp2) ?_;unfold tf;rw[e];exact⟨p2,rfl,IC⟩
def GT (K:W.Frag):Sp:=λvs H Q ο=>∃v r lo hi,vs=[v,.int lo,.int hi]/\VC H v r/\∀u H',uC H H'->VC H' u (UE r lo hi)->Q u H'
theorem f7 (T:fD K mg A):TD P w K mg base "part_of" 2 ["run","low","high"] [] (GT K):=by
 have Ay:=@rO P w K mg base A T;have Bi:=@FT P w K mg base A T;refine T.Ju.have t6 (λvs H Q E z=>?_) ?_
 ·obtain⟨v,r,lo,hi,rfl,_⟩:=z;rfl
 ·intro f cdv A' outer s H vs Q E hr z;obtain⟨v,r,lo,hi,rfl,hR,q⟩:=z;obtain⟨a,tv,rfl,ha,ht⟩:=id hR;refine⟨_,(CC (iD (i:=3) t6.nd rfl (Or.inl rfl) (rF (Pb rfl) rfl T.Mh PyProof.Rows.boot_max (iC (GD fE (eC 0) yC (λο ο=>rfl)) (iC (eC 1) rC))))
   (FC (uD (NG (iC (eC 3) (iC (BD tH (rF (Qb rfl) rfl T.Mi PyProof.Rows.boot_min (iC (DD Ay (hr.mono (by decide)) GC (iC (eC 0) rC)) (iC (eC 2) rC))) (eC 3)) (iC (GD fE (eC 0) yC (λο ο=>rfl)) (iC (DD Bi (hr.mono (by decide)) GC (iC (eC 0) (iC (eC 3) rC))) rC)))))))),?_⟩
  unfold KM rQ;rfl';refine⟨_,ZC.of ha,_,rfl,_,rfl,r,hR,_,ZC.of ha,_,rfl,r,hR,λu H1 s1 hu p hp=>?_⟩;have e1:(if lo > r.f then lo else r.f)=max r.f lo:=by split<;>omega
  have e2:(if hi < aD r then hi else aD r)=min (aD r) hi:=by split<;>omega
  rw[e1,e2];rw[e1] at hu;refine q _ _ (bE s1 hp) ⟨p,u,rfl,IC,?_⟩;exact hu.same (bE LD hp)
theorem Rg {H:Hp} {u v:V} {t1 t2:Option (Int×Int)} {Q:VK} (h1:rD H u t1) (h2:rD H v t2) (q:Q (.bl (decide (t1=t2))) H):XN K 4 u v H Q:=by
 cases t1 with
 |none=>
  cases t2 with
  |none=>exact .inl ⟨h1,h2,q⟩
  |some t2=>
   obtain⟨b,k⟩:=t2;obtain⟨a,e,h2⟩:=h2;exact .inr (.inl ⟨h1,⟨a,_,e,ZC.of h2⟩,q⟩)
 |some t1=>
  obtain⟨b,k⟩:=t1;obtain⟨a,e,h1⟩:=h1;cases t2 with
  |none=>exact .inr (.inr (.inl ⟨⟨a,_,e,ZC.of h1⟩,h2,q⟩))
  |some t2=>
   obtain⟨b2,k2⟩:=t2;obtain⟨a2,e2,h2⟩:=h2;subst e e2;refine .inr (.inr (.inr ⟨true,lD [b,k],lD [b2,k2],l5 (ns:=[b,k]) (ZC.of h1),l5 (ns:=[b2,k2]) (ZC.of h2),o5 _ _,by rw[p5];decide,?_⟩));rw[u5];rw[show decide ([b,k]=[b2,k2])=decide (some (b,k)=some (b2,k2)) from by rw[decide_eq_decide];simp];exact q
def i7 (K:W.Frag):Sp:=λvs H Q ο=>∃v u r s,vs=[v,u]/\VC H v r/\VC H u s/\∀H',uC H H'->Q (.bl (go r s)) H'
theorem Sg (T:fD K mg A):TD P w K mg base "goes_on" 2 ["run","later"] [] (i7 K):=by
 have Ay:=@rO P w K mg base A T;have Bi:=@FT P w K mg base A T;refine T.Jv.have Nf (λvs H Q E z=>?_) ?_
 ·obtain⟨v,u,r,s,rfl,_⟩:=z;rfl
 ·intro f cdv A' outer s H vs Q E hr z;obtain⟨v,u,r,s',rfl,hR,hS,q⟩:=z;obtain⟨a,tv,rfl,ha,ht⟩:=id hR;obtain⟨b,uv,rfl,hb,hu⟩:=id hS;refine⟨_,(FC (uD (yI (DM EI (DD Ay (hr.mono (by decide)) GC (iC (eC 0) rC)) (GD fE (eC 1) yC (λο ο=>rfl)) (wC _)) (yI (DM EI (GD fE (eC 0) yC (λο ο=>rfl)) (GD fE (eC 1) yC (λο ο=>rfl)) (wC _)) (BM (DM (gL (n:=4) (i5 hr)) (DD Bi (hr.mono (by decide)) GC (iC (eC 0) (iC (GD fE (eC 1) yC (λο ο=>rfl)) rC))) (GD fE (eC 1) yC (λο ο=>rfl)) (wC _))))))),?_⟩;unfold KM rQ;rfl';refine⟨r,hR,_,ZC.of hb,.int s'.f,rfl,rfl,?_⟩;by_cases c1:aD r=s'.f
  ·rw[iA (by rw[c1])];refine⟨_,ZC.of ha,.int r.r,rfl,_,ZC.of hb,.int s'.r,rfl,rfl,?_⟩;by_cases c2:r.r=s'.r
   ·rw[iA (by rw[c2])];refine⟨_,ZC.of hb,_,rfl,r,_,rfl,hR,λu H1 s1 hu1=>⟨_,ZC.of (s1 _ _ hb),uv,rfl,Rg hu1 (hu.same s1) ?_⟩⟩;have e:go r s'=decide (tf r s'.f=s'.t):=by unfold go;rw[nA c1,nA c2,Bool.true_and,Bool.true_and]
    have:=q _ s1;rw[e] at this;exact this
   ·rw[fA (λz=>c2 (V.int.inj z))];have e:go r s'=false:=by unfold go;rw[HA c2,Bool.and_false,Bool.false_and]
    have:=q _ LD;rw[e] at this;exact this
  ·rw[fA (λz=>c1 (V.int.inj z))];have e:go r s'=false:=by unfold go;rw[HA c1,Bool.false_and,Bool.false_and]
   have:=q _ LD;rw[e] at this;exact this
theorem j7 {α β:Type} {F:α->β->Prop} {y:β}:∀{ys:List β} {xs:List α},Paired F xs (ys++[y])->∃zs z,xs=zs++[z]/\Paired F zs ys/\F z y
 |[],_,.cons r .nil=>⟨[],_,rfl,.nil,r⟩
 |_::_,_,.cons r t=>by
  obtain⟨zs,z,e,h1,h2⟩:=j7 t;exact⟨_::zs,z,by rw[e];rfl,.cons r h1,h2⟩
theorem IT:∀(l acc:List Rn),(l.foldl zE acc).length<=acc.length+l.length
 |[],acc=>kA _
 |r::l,acc=>by
  rw[List.foldl_cons];refine dB (IT l _) ?_;have:(zE acc r).length<=acc.length+1:=by
   unfold zE;cases h:acc.getLast? with
   |none=>simp
   |some x=>
    simp only
    split
    ·rw[oA,List.length_dropLast,iB];cases acc with
     |nil=>cases h
     |cons a acc=>simp
    ·simp
  rw[ZA];omega
theorem Tg {acc:List Rn} {l r:Rn} (h:go l r=false):zE (acc++[l]) r=acc++[l]++[r]:=by
 unfold zE;rw[List.getLast?_concat];show (if go l r=true then _ else _)=_;rw[h];rfl
theorem Ug {acc:List Rn} {l r:Rn} (h:go l r=true):zE (acc++[l]) r=acc++[⟨l.f,l.m+r.m,l.r,l.t⟩]:=by
 unfold zE;rw[List.getLast?_concat];show (if go l r=true then _ else _)=_;rw[iA h,List.dropLast_concat]
def k7 (K:W.Frag):Sp:=λvs H Q ο=>∃(a:Addr) (ws:List V) (rs:List Rn),vs=[.ref a]/\QC K H a ws/\oC H ws rs/\rs.length<=1000000/\∀t us H',uC H H'->H t=none->H' t=some (.lst us)->oC H' us (jn rs)->Q (.ref t) H'
theorem Vg (T:fD K mg A):TD P w K mg base "joined" 3 ["runs"] [] (k7 K):=by
 have Kb:=@Sg P w K mg base A T;refine T.Kg.have kQ (λvs H Q E z=>?_) ?_
 ·obtain⟨a,ws,rs,rfl,_⟩:=z;rfl
 ·intro f cdv A' outer s H vs Q E hr z;obtain⟨a,ws,rs,rfl,ha,hR,hlen,q⟩:=z;refine⟨_,(CC (iD (i:=1) kQ.nd rfl (Or.inl rfl) (gI rC))
   (CC (GH aB rfl (BI (eC 0)) (wF (i:=2) kQ.nd rfl (Or.inl rfl)) (FC (hE (PW.pt (KP (pE IK (rF oJ rfl T.A7 PySem.boot_len (iC (eC 1) rC)) yC (wC _)) (JP (XG (DD Kb (hr.mono (by decide)) GC (iC (GD jI (eC 1) (jJ S4 yC) (λο ο=>rfl)) (iC (eC 2) rC))))))) (CC (iD (i:=3) kQ.nd rfl (Or.inl rfl) (MK PySem.F.plainAttrs_list PySem.F.slot_list_pop PySem.F.type_list_pop NK (eC 1)))
   (FC (GE (NP PySem.F.plainAttrs_list PySem.F.slot_list_append PySem.F.type_list_append IN (eC 1) (iC (NG (iC (GD fE (eC 3) yC (λο ο=>rfl)) (iC (BD aG (GD fE (eC 3) yC (λο ο=>rfl)) (GD fE (eC 2) yC (λο ο=>rfl))) (iC (GD fE (eC 3) yC (λο ο=>rfl)) (iC (GD fE (eC 3) yC (λο ο=>rfl)) rC))))) rC))))) (FC (GE (NP PySem.F.plainAttrs_list PySem.F.slot_list_append PySem.F.type_list_append IN (eC 1) (iC (eC 2) rC)))))))
   (FC (uD (eC 1))))),?_⟩
  unfold i7;rfl';intro t ht;have sm0:=bE (o:=.lst []) LD ht;have hwl:ws.length=rs.length:=Paired.length hR;refine⟨⟨_,sm0.seq ha⟩,SN (xs:=ws) (λi σ H'=>∃us v2 v3,σ=[some (.ref a),some (.ref t),v2,v3]/\uC H H'/\H' t=some (.lst us)/\oC H' us ((rs.take i).foldl zE [])) ⟨[],_,_,rfl,sm0,IC,.nil⟩ (λi σ H' _ zz=>by obtain⟨_,_,_,zz⟩:=zz;exact zz.2.1.seq ha) (λi x σ H' hi=>?_) (λσ H'=>?_)⟩
  ·rintro⟨us,v2,v3,rfl,sm,ht',hU⟩;obtain⟨r,hr1,hr2⟩:=RI hR hi;have hrx:=hr2.same sm;have htk:rs.take (i+1)=rs.take i++[r]:=by rw[NA,hr1];rfl
   have hul:us.length<=i:=by
    have h1:=Paired.length hU;have h2:=IT (rs.take i) [];rw[cB] at h2;simp only[List.length_nil] at h2;omega
   have hil:i < rs.length:=(IA.mp hr1).1;rw[htk,List.foldl_append,List.foldl_cons,List.foldl_nil];generalize (rs.take i).foldl zE []=acc at *;rfl';refine⟨us.length,.inl ⟨_,QC.of ht',rfl⟩,?_⟩;rcases hacc:acc.getLast? with _|l
   ·have e0:acc=[]:=List.getLast?_eq_none_iff.mp hacc;subst e0;cases hU;rw[fA (show ¬(0:Int) < (([]:List V).length:Int) from λz=>absurd z (by decide))];refine wD ⟨.inl ⟨rfl,_,QC.of ht'⟩,_,ht',by show 0 < 16777216;decide,SH sm ht,_,rfl,?_⟩;exact .cons (hrx.same2 ht' sm) .nil
   ·obtain⟨acc0,rfl⟩:=c7 hacc;obtain⟨us0,y,rfl,hU0,hy⟩:=j7 hU;have hpos:(0:Int) < ((us0++[y]).length:Int):=by rw[oA,iB];omega
    rw[iA hpos];refine⟨_,QC.of ht',y,?_,l,hy,r,hrx,λH1 s1=>?_⟩
    ·unfold oG wH;rw[fA (by decide),iA (by rw[oA,iB];omega)];show (us0++[y])[(-1+((us0++[y]).length:Int)).toNat]?=some y;rw[oA,iB,show (-1+((us0.length+1:Nat):Int)).toNat=us0.length by omega,lB (kA _),Nat.sub_self]
     rfl
    have ht1:=s1 _ _ ht';have sm1:=sm.trans s1;cases hg:go l r with
    |true=>
     refine xD ⟨.inl ⟨rfl,_,QC.of ht1⟩,_,ht1,y,by rw[oA,iB,Nat.add_sub_cancel,lB (kA _),Nat.sub_self];rfl,?_⟩;rw[List.dropLast_concat];have hy2:VC (jC H1 t (.lst us0)) y l:=(hy.same s1).same2 ht1 sm1;have hx2:VC (jC H1 t (.lst us0)) x r:=(hrx.same s1).same2 ht1 sm1;obtain⟨c,cv,rfl,hc,hcv⟩:=id hy2;obtain⟨d,dv,rfl,hd,hdv⟩:=id hx2;rfl';refine⟨.inl ⟨rfl,_,QC.of IC⟩,_,ZC.of hc,_,rfl,_,ZC.of hc,_,rfl,_,ZC.of hd,_,rfl,_,rfl,_,rfl,_,ZC.of hc,_,rfl,_,ZC.of hc,_,rfl,λe he=>?_⟩;have se:=bE (o:=.tup [V.int l.f,V.int (l.m+r.m),V.int l.r,cv]) LD he;have hte:=se _ _ (IC (H:=H1) (a:=t) (o:=.lst us0));have sme:=bE (o:=.tup [V.int l.f,V.int (l.m+r.m),V.int l.r,cv]) (SH (o:=.lst us0) sm1 ht) he;refine⟨us0,hte,by rw[oA,iB] at hul;omega,SH sme ht,_,rfl,?_⟩;rw[Ug hg];refine TH (oC.same2 (oC.same (oC.same2 (oC.same hU0 s1) ht1 sm1) se) hte sme) (.cons ?_ .nil);exact VC.same2 (⟨e,cv,rfl,IC,hcv.same se⟩:VC _ (.ref e) ⟨l.f,l.m+r.m,l.r,l.t⟩) hte sme
    |false=>
     refine wD ⟨.inl ⟨rfl,_,QC.of ht1⟩,_,ht1,by rw[oA,iB] at *; omega,SH sm1 ht,_,rfl,?_⟩;rw[Tg hg];exact TH (TH (oC.same2 (oC.same hU0 s1) ht1 sm1) (.cons ((hy.same s1).same2 ht1 sm1) .nil)) (.cons ((hrx.same s1).same2 ht1 sm1) .nil)
  ·rintro⟨us,v2,v3,rfl,sm,ht',hU⟩;rfl';rw[hwl,VA] at hU;exact q _ _ _ sm ht ht' hU
def IG (a:Addr):List (Str×V):=nC "runs" (.ref a) []
theorem SJ {a:Addr}:(IG a).lookup ("runs":Str)=some (.ref a):=by rfl
theorem cG {a:Addr} {m:Str} (h:¬m∈(["runs"]:List Str)):(IG a).lookup m=none:=by
 simp only[vA,fB,or_false] at h;unfold IG;simp only[EM,h,bC]
 rfl
def aE (C:Addr) (H:Hp) (p a:Addr) (rs:List Rn):Prop:=∃dx vs,H p=some (.ins C dx (IG a))/\H a=some (.lst vs)/\oC H vs rs
theorem aE.same {C:Addr} {H H':Hp} {p a:Addr} {rs:List Rn} (h:aE C H p a rs) (s:uC H H'):aE C H' p a rs:=let ⟨dx,vs,h1,h2,h3⟩:=h;⟨dx,vs,s _ _ h1,s _ _ h2,oC.same h3 s⟩
def JT (K:W.Frag) (C:Addr):Sp:=λvs H Q ο=>∃(p a:Addr) (rs:List Rn) (x:Int),vs=[.ref p,.int x]/\aE C H p a rs/\qD rs/\rs.length<=1000000/\Q (.int (pb rs x)) H
theorem l7 (T:fD K mg A):AC P w K mg base A.Aa "place_behind" 2 ["self","page"] [] (JT K A.Aa):=by
 have Ay:=@rO P w K mg base A T;refine T.Bv.have IM (λvs H Q E z=>?_) ?_
 ·obtain⟨p,a,rs,x,rfl,_⟩:=z;rfl
 ·intro f cdv A' outer s H vs Q E hr z;obtain⟨p,a,rs,x,rfl,⟨dx,vs,h1,h2,h3⟩,ho,hlen,q⟩:=z;refine⟨_,(CC (iD (i:=2) IM.nd rfl (Or.inl rfl) yC)
   (CC (iD (i:=3) IM.nd rfl (Or.inl rfl) (rF oJ rfl T.A7 PySem.boot_len (iC (cD (eC 0) rfl) rC)))
   (CC (R5 aB (pE vN (eC 2) (eC 3) (wC _)) (CC (iD (i:=4) IM.nd rfl (Or.inl rfl) (BD RQ (BD aG (eC 2) (eC 3)) yC))
   (FC (hE (pE IK (DD Ay (hr.mono (by decide)) GC (iC (GD jI (cD (eC 0) rfl) (eC 4) (λο ο=>rfl)) rC)) (eC 1) (wC _)) (FC (iD (i:=3) IM.nd rfl (Or.inl rfl) (eC 4))) (FC (iD (i:=2) IM.nd rfl (Or.inl rfl) (BD aG (eC 4) yC)))))))
   (FC (uD (eC 2)))))),?_⟩
  have hvl:vs.length=rs.length:=Paired.length h3;unfold KM;rfl';simp only[h1];rfl';refine⟨T.Af,T.Ah,_,SJ,vs.length,.inl ⟨_,QC.of h2,rfl⟩,?_⟩;refine S5 (λmm σ H'=>∃(lo hi:Nat) (v4:Option V),mm=hi - lo/\σ=[some (.ref p),some (.int x),some (.int lo),some (.int hi),v4]/\H'=H/\lo<=pb rs x/\pb rs x<=hi/\hi<=rs.length) vs.length ⟨0,vs.length,_,rfl,rfl,rfl,aC _,by rw[hvl];exact pO,⋯⟩ (λmm σ H'=>?_);rintro⟨lo,hi,v4,rfl,rfl,rfl,k1,k2,k3⟩;rfl';by_cases c:(lo:Int) < (hi:Int)
  ·rw[iA c];refine EJ ?_;rfl';have hmid:(lo+hi) / 2 < vs.length:=⋯;obtain⟨r,hr1,hr2⟩:=RI h3 (GA hmid);have hat:=FI (GA hmid);have em:((lo:Int)+(hi:Int)) / 2=(((lo+hi) / 2:Nat):Int):=⋯;have hpb:=qO ho (p:=x) hr1;rw[em];refine⟨_,dx,_,h1,T.Af,T.Ah,_,SJ,a,rfl,_,QC.of h2,_,hat,r,hr2,?_⟩;by_cases c2:x < aD r
   ·rw[iA c2];have:¬(lo+hi) / 2 < pb rs x:=λz=>by have:=hpb.mp z;omega
    refine⟨(lo+hi) / 2 - lo,⋯,lo,(lo+hi) / 2,?_⟩
    first
     |exact⟨rfl,rfl,rfl,k1,⋯,⋯⟩
     |exact⟨rfl,k1,⋯,⋯⟩
     |(trace_state;exact⟨rfl,rfl,k1,⋯,⋯⟩)
   ·rw[fA c2];have:(lo+hi) / 2 < pb rs x:=hpb.mpr ⋯;refine⟨hi - ((lo+hi) / 2+1),⋯,(lo+hi) / 2+1,hi,?_⟩
    first
     |exact⟨rfl,rfl,rfl,⋯,k2,k3⟩
     |exact⟨rfl,⋯,k2,k3⟩
     |(trace_state;exact⟨rfl,⋯,rfl,⋯,k2,k3⟩)
  ·rw[fA c];have e:pb rs x=lo:=⋯;rw[e] at q;exact q
theorem MT {xs:List V} {lo hi:Nat}:DE xs (some (lo:Int)) (some (hi:Int))=(xs.take hi).drop lo:=by
 unfold DE;show (xs.drop (if (lo:Int) < 0 then ((lo:Int)+(xs.length:Int)).toNat else min (lo:Int).toNat xs.length)).take ((if (hi:Int) < 0 then ((hi:Int)+(xs.length:Int)).toNat else min (hi:Int).toNat xs.length) - (if (lo:Int) < 0 then ((lo:Int)+(xs.length:Int)).toNat else min (lo:Int).toNat xs.length))=_;rw[fA ⋯,fA ⋯,pB,pB,List.drop_take];refine List.ext_getElem? λk=>?_;rw[List.getElem?_take,List.getElem?_take,List.getElem?_drop,List.getElem?_drop];by_cases h1:k < hi - lo
 ·rw[iA h1];by_cases h2:k < min hi xs.length - min lo xs.length
  ·rw[iA h2,Nat.min_eq_left ⋯]
  ·rw[fA h2,List.getElem?_eq_none_iff.mpr ⋯]
 ·rw[fA h1];by_cases h2:k < min hi xs.length - min lo xs.length
  ·rw[iA h2,List.getElem?_eq_none_iff.mpr ⋯]
  ·rw[fA h2]
theorem Wg {xs:List V} {hi:Nat}:DE xs none (some (hi:Int))=xs.take hi:=by
 unfold DE;show (xs.drop 0).take ((if (hi:Int) < 0 then ((hi:Int)+(xs.length:Int)).toNat else min (hi:Int).toNat xs.length) - 0)=_;rw[fA ⋯,pB,List.drop_zero,Nat.sub_zero];rcases Nat.le_total hi xs.length with h|h
 ·rw[Nat.min_eq_left h]
 ·rw[Nat.min_eq_right h,VA,List.take_of_length_le h]
theorem Xg {xs:List V} {lo:Nat}:DE xs (some (lo:Int)) none=xs.drop lo:=by
 unfold DE;show (xs.drop (if (lo:Int) < 0 then ((lo:Int)+(xs.length:Int)).toNat else min (lo:Int).toNat xs.length)).take (xs.length - (if (lo:Int) < 0 then ((lo:Int)+(xs.length:Int)).toNat else min (lo:Int).toNat xs.length))=_;rw[fA ⋯,pB];rcases Nat.le_total lo xs.length with h|h
 ·rw[Nat.min_eq_left h];exact List.take_of_length_le (by rw[List.length_drop];omega)
 ·rw[Nat.min_eq_right h,Nat.sub_self,List.take_zero,List.drop_eq_nil_of_le h]
def NT (K:W.Frag) (C:Addr):Sp:=λvs H Q ο=>∃(p a:Addr) (rs:List Rn) (x n:Int),vs=[.ref p,.int x,.int n]/\aE C H p a rs/\qD rs/\rs.length<=1000000/\∀t us H',uC H H'->H t=none->H' t=some (.lst us)->oC H' us (lG rs x n)->Q (.ref t) H'
theorem o7 (T:fD K mg A):AC P w K mg base A.Aa "parts_amid" 4 ["self","first","many"] [] (NT K A.Aa):=by
 have B1:=@f7 P w K mg base A T;have Ao:=@l7 P w K mg base A T;refine T.B2.have oS (λvs H Q E z=>?_) ?_
 ·obtain⟨p,a,rs,x,n,rfl,_⟩:=z;rfl
 ·intro f cdv A' outer s H vs Q E hr z;obtain⟨p,a,rs,x,n,rfl,hS,ho,hlen,q⟩:=z;obtain⟨dx,vs,h1,h2,h3⟩:=id hS;refine⟨_,(CC (iD (i:=3) oS.nd rfl (Or.inr rfl) (BD aG (eC 1) (eC 2)))
   (CC (iD (i:=4) oS.nd rfl (Or.inl rfl) (AN EN (cD (eC 0) rfl) (rJ (HD (eC 0) T.Af Ao (hr.mono (by decide)) GC (iC (eC 1) rC))) (rJ (BD aG (HD (eC 0) T.Af Ao (hr.mono (by decide)) GC (iC (eC 3) rC)) yC))))
   (FC (uD (xR rfl (BI (eC 4)) (x:="run") (fs:=["first","end"]) (ix:=[1,3]) rfl rfl (λο ο ο ο ο ο=>(wF (i:=0) (show (["run","first","end"]:List Str).Nodup by decide+kernel) rfl (Or.inl rfl))) (λο ο ο ο ο ο=>(bQ (pE vN (GD (dQ (K:=K) rfl) (eC 0) yC (λο ο=>rfl)) (eC 2) (wC _)))) (λο ο ο ο ο ο=>(DD B1 (hr.mono (by decide)) dL (iC (eC 0) (iC (eC 1) (iC (eC 2) rC)))))))))),?_⟩
  unfold GT JT;rfl';simp only[h1];rfl';refine⟨T.Af,T.Ah,_,SJ,cG ∅,a,rs,hS,ho,hlen,cG ∅,a,rs,hS,ho,hlen,?_⟩;refine⟨a,rfl,_,QC.of h2,λsl hsl=>⟨⟨_,QC.of IC⟩,?_⟩⟩;have ecut:DE vs (some ((pb rs x:Nat):Int)) (some (((pb rs (x+n):Nat):Int)+1))=(vs.take (pb rs (x+n)+1)).drop (pb rs x):=MT (hi:=pb rs (x+n)+1);rw[ecut];have hnear:oC H ((vs.take (pb rs (x+n)+1)).drop (pb rs x)) (rE rs (pb rs x) (pb rs (x+n)+1)):=qQ _ (pQ _ h3);have q':∀t us H',uC H H'->H t=none->H' t=some (.lst us)->oC H' us (((rE rs (pb rs x) (pb rs (x+n)+1)).filter λr=>decide (r.f < x+n)).map λr=>UE r x (x+n))->Q (.ref t) H':=q;have hnl:(rE rs (pb rs x) (pb rs (x+n)+1)).length<=1000000:=by
   unfold rE;rw[List.length_drop,cB];omega
  generalize (vs.take (pb rs (x+n)+1)).drop (pb rs x)=nv at *;generalize rE rs (pb rs x) (pb rs (x+n)+1)=near at *;intro D hD;have s1:=bE (o:=.lst nv) LD hsl;have hnvl:nv.length=near.length:=Paired.length hnear;refine cQ (xs:=nv) (λi ys σ H'=>∃v,σ=[v,some (.int x),some (.int (x+n))]/\uC (jC H sl (.lst nv)) H'/\H' D=some (.lst ys)/\oC H' ys (((near.take i).filter λr=>decide (r.f < x+n)).map λr=>UE r x (x+n))) ⟨_,rfl,bE LD hD,IC,.nil⟩ (λi ys σ H' _ zz=>by obtain⟨_,zz⟩:=zz;exact QC.of (zz.2.1 _ _ IC)) (λi v ys σ H' hi=>?_) (λys σ H'=>?_)
  ·rintro⟨v0,rfl,s2,hDD,hys⟩;obtain⟨r,hr1,hr2⟩:=RI hnear hi;have hrx:=hr2.same (s1.trans s2);have htk:near.take (i+1)=near.take i++[r]:=by rw[NA,hr1];rfl
   have hil:i < near.length:=(IA.mp hr1).1;have hyl:ys.length<=i:=by
    have h4:=Paired.length hys;rw[cA] at h4;have h5:=bB (λr:Rn=>decide (r.f < x+n)) (near.take i);rw[cB] at h5;omega
   rw[htk,JB,gA];obtain⟨c,cv,rfl,hc,hcv⟩:=id hrx;rfl';refine⟨_,ZC.of hc,_,rfl,_,rfl,?_⟩;by_cases c1:r.f < x+n
   ·rw[iA c1];refine⟨r,hrx,λu H2 s3 hu=>?_⟩;have hD2:=s3 _ _ hDD;have hu2:VC (jC H2 D (.lst (ys++[u]))) u (UE r x (x+n)):=VC.same2 (H:=H2) hu hD2 LD;have hys2:oC (jC H2 D (.lst (ys++[u]))) ys (((near.take i).filter λr=>decide (r.f < x+n)).map λr=>UE r x (x+n)):=oC.same2 (H:=H2) (oC.same hys s3) hD2 LD;refine⟨hD2,⋯,SH (s2.trans s3) hD,?_⟩;have ef:[r].filter (λr=>decide (r.f < x+n))=[r]:=by rw[uB,nA c1];rfl
    rw[ef];exact TH hys2 (.cons hu2 .nil)
   ·rw[fA c1];have ef:[r].filter (λr=>decide (r.f < x+n))=[]:=by rw[uB,HA c1];rfl
    rw[ef,BB,GB];exact⟨s2,hDD,hys⟩
  ·rintro⟨v0,rfl,s2,hDD,hys⟩;rw[hnvl,VA] at hys;exact q' _ _ _ (s1.trans s2) (VF s1 hD) hDD hys
def p7 (C:Addr):Sp:=λvs H Q ο=>∃(p a:Addr) (rs:List Rn) (x n:Int),vs=[.ref p,.int x,.int n]/\aE C H p a rs/\qD rs/\rs.length<=1000000/\∀H',uC H H'->Q (.bl (decide (lG rs x n=[]))) H'
theorem EL (T:fD K mg A):AC P w K mg base A.Aa "is_free" 5 ["self","first","many"] [] (p7 A.Aa):=by
 have Az:=@o7 P w K mg base A T;refine T.Cu.have Sf (λvs H Q E z=>?_) ?_
 ·obtain⟨p,a,rs,x,n,rfl,_⟩:=z;rfl
 ·intro f cdv A' outer s H vs Q E hr z;obtain⟨p,a,rs,x,n,rfl,hS,ho,hlen,q⟩:=z;obtain⟨dx,vs,h1,h2,h3⟩:=id hS;refine⟨_,(FC (uD (DM EI (rF oJ rfl T.A7 PySem.boot_len (iC (HD (eC 0) T.Af Az (hr.mono (by decide)) GC (iC (eC 1) (iC (eC 2) rC))) rC)) yC (wC _)))),?_⟩;unfold NT;rfl';simp only[h1];rfl';refine⟨cG ∅,a,rs,hS,ho,hlen,λt us H1 s1 ht0 ht hU=>⟨us.length,.inl ⟨_,QC.of ht,rfl⟩,?_⟩⟩;have hl:=Paired.length hU;have e:decide ((us.length:Int)=0)=decide (lG rs x n=[]):=by
   rw[decide_eq_decide,<-List.length_eq_zero_iff,<-hl];omega
  rw[e];exact q _ s1
def t7 (C:Addr):Sp:=λvs H Q ο=>∃(p a:Addr) (rs:List Rn),vs=[.ref p]/\aE C H p a rs/\∀t us,H t=none->oC (jC H t (.lst us)) us rs->Q (.ref t) (jC H t (.lst us))
theorem Yg (T:fD K mg A):AC P w K mg base A.Aa "told" 1 ["self"] [] (t7 A.Aa):=by
 refine T.Ef.have Tf (λvs H Q E z=>?_) ?_
 ·obtain⟨p,a,rs,rfl,_⟩:=z;rfl
 ·intro f cdv A' outer s H vs Q E hr z;obtain⟨p,a,rs,rfl,hS,q⟩:=z;obtain⟨dx,vs,h1,h2,h3⟩:=id hS;refine⟨_,(FC (uD (iI GN rfl T.B7 DB (iC (cD (eC 0) rfl) rC)))),?_⟩;rfl';simp only[h1];rfl';refine⟨T.Af,T.Ah,_,SJ,a,rfl,_,.inl (QC.of h2),λt ht=>?_⟩;exact q t vs ht (oC.same h3 (bE LD ht))
def OT (C:Addr):Sp:=λvs H Q ο=>∃(p a:Addr) (rs:List Rn) (x:Int),vs=[.ref p,.int x]/\aE C H p a rs/\qD rs/\rs.length<=1000000/\∀v H',uC H H'->((v=.non/\pm rs x=none)\/∃y,VC H' v y/\pm rs x=some (y.r,y.t))->Q v H'
theorem TJ (T:fD K mg A):AC P w K mg base A.Aa "part_at" 5 ["self","page"] [] (OT A.Aa):=by
 have Az:=@o7 P w K mg base A T;refine T.Cv.have x6 (λvs H Q E z=>?_) ?_
 ·obtain⟨p,a,rs,x,rfl,_⟩:=z;rfl
 ·intro f cdv A' outer s H vs Q E hr z;obtain⟨p,a,rs,x,rfl,hS,ho,hlen,q⟩:=z;obtain⟨dx,vs,h1,h2,h3⟩:=id hS;refine⟨_,(CC (iD (i:=2) x6.nd rfl (Or.inl rfl) (HD (eC 0) T.Af Az (hr.mono (by decide)) GC (iC (eC 1) (iC yC rC))))
   (FC (uD (CM (pE IK (rF oJ rfl T.A7 PySem.boot_len (iC (eC 2) rC)) yC (wC _)) (GD jI (eC 2) yC (λο ο=>rfl)) ZF)))),?_⟩
  unfold NT;rfl';simp only[h1];rfl';refine⟨cG ∅,a,rs,hS,ho,hlen,λt us H1 s1 ht0 ht hU=>⟨us.length,.inl ⟨_,QC.of ht,rfl⟩,?_⟩⟩;rcases Qg (p:=x) ho with ⟨e1,e2⟩|⟨y,e1,e2⟩
  ·rw[e1] at hU;cases hU;rw[fA (show ¬(0:Int) < (([]:List V).length:Int) from λz=>absurd z (by decide))];exact q _ _ s1 (.inl ⟨rfl,e2⟩)
  ·rw[e1] at hU;cases hU with
   |cons hy hn=>
    cases hn;rw[iA (show (0:Int) < (([_]:List V).length:Int) from by show (0:Int) < 1;decide)];exact⟨_,QC.of ht,_,FI (j:=0) rfl,q _ _ s1 (.inr ⟨y,hy,e2⟩)⟩
def oR:Option (Int×Option (Int×Int))->V
 |none=>.non
 |some (r,_)=>.int r
def u7 (C:Addr):Sp:=λvs H Q ο=>∃(p a:Addr) (rs:List Rn) (x:Int),vs=[.ref p,.int x]/\aE C H p a rs/\qD rs/\rs.length<=1000000/\∀H',uC H H'->Q (oR (pm rs x)) H'
theorem sO (T:fD K mg A):AC P w K mg base A.Aa "rights_at" 6 ["self","page"] [] (u7 A.Aa):=by
 have A5:=@TJ P w K mg base A T;refine T.B8.have u6 (λvs H Q E z=>?_) ?_
 ·obtain⟨p,a,rs,x,rfl,_⟩:=z;rfl
 ·intro f cdv A' outer s H vs Q E hr z;obtain⟨p,a,rs,x,rfl,hS,ho,hlen,q⟩:=z;obtain⟨dx,vs,h1,h2,h3⟩:=id hS;refine⟨_,(CC (iD (i:=2) u6.nd rfl (Or.inl rfl) (HD (eC 0) T.Af A5 (hr.mono (by decide)) GC (iC (eC 1) rC)))
   (FC (uD (CM (pE fI (eC 2) ZF (wC _)) ZF (GD fE (eC 2) yC (λο ο=>rfl)))))),?_⟩
  unfold OT;rfl';simp only[h1];rfl';refine⟨cG ∅,a,rs,hS,ho,hlen,λv H1 s1 h=>?_⟩;rcases h with ⟨rfl,e⟩|⟨y,hy,e⟩
  ·rw[iA rfl];have:=q _ s1;rw[e] at this;exact this
  ·obtain⟨c,cv,rfl,hc,hcv⟩:=hy;rw[fA (λz=>nomatch z)];have:=q _ s1;rw[e] at this
   first
    |exact⟨_,ZC.of hc,_,rfl,this⟩
    |(rfl';exact⟨_,ZC.of hc,_,rfl,this⟩)
def v7 (C:Addr):Sp:=λvs H Q ο=>∃(p a:Addr) (rs:List Rn) (x:Int),vs=[.ref p,.int x]/\aE C H p a rs/\qD rs/\rs.length<=1000000/\∀v H',uC H H'->rD H' v ((pm rs x).bind (·.2))->Q v H'
theorem uO (T:fD K mg A):AC P w K mg base A.Aa "tie_at" 6 ["self","page"] [] (v7 A.Aa):=by
 have A5:=@TJ P w K mg base A T;refine T.Db.have w6 (λvs H Q E z=>?_) ?_
 ·obtain⟨p,a,rs,x,rfl,_⟩:=z;rfl
 ·intro f cdv A' outer s H vs Q E hr z;obtain⟨p,a,rs,x,rfl,hS,ho,hlen,q⟩:=z;obtain⟨dx,vs,h1,h2,h3⟩:=id hS;refine⟨_,(CC (iD (i:=2) w6.nd rfl (Or.inl rfl) (HD (eC 0) T.Af A5 (hr.mono (by decide)) GC (iC (eC 1) rC)))
   (FC (uD (CM (pE fI (eC 2) ZF (wC _)) ZF (GD fE (eC 2) yC (λο ο=>rfl)))))),?_⟩
  unfold OT;rfl';simp only[h1];rfl';refine⟨cG ∅,a,rs,hS,ho,hlen,λv H1 s1 h=>?_⟩;rcases h with ⟨rfl,e⟩|⟨y,hy,e⟩
  ·rw[iA rfl];exact q _ _ s1 (by rw[e];rfl)
  ·obtain⟨c,cv,rfl,hc,hcv⟩:=hy;rw[fA (λz=>nomatch z)];have:=q _ _ s1 (by rw[e];exact hcv)
   first
    |exact⟨_,ZC.of hc,_,rfl,this⟩
    |(rfl';exact⟨_,ZC.of hc,_,rfl,this⟩)
def QT (C:Addr):Sp:=λvs H Q ο=>∃(p dx:Addr),vs=[.ref p]/\H p=some (.ins C dx [])/\∀a,H a=none->Q .non (jC (jC H a (.lst [])) p (.ins C dx (IG a)))
theorem M7 (T:fD K mg A):XE P w K mg base "Stretches" A.Aa 1 ["self"] [] (QT A.Aa):=by
 refine T.Ee.have Of (λvs H Q E z=>?_) ?_
 ·obtain⟨p,dx,rfl,_⟩:=z;rfl
 ·intro f cdv A' outer s H vs Q E hr z;obtain⟨p,dx,rfl,hp,q⟩:=z;refine⟨_,(FC (xF (eC 0) (gI rC) rfl)),?_⟩;rfl';intro a ha;have hpa:p≠a:=bD hp ha;refine⟨_,dx,[],by rw[vC hpa];exact hp,T.Af,T.Ah,by show 0 < 1000;decide,?_⟩;exact q a ha
def RT (O:Addr):Sp:=λvs H Q E=>∃x:V,vs=[x]/\Kn H x/\if UD x 0 3=true then Q .non H else E (.ref O) none H
theorem wO (T:fD K mg A):TD P w K mg base "check_rights" 3 ["rights"] [] (RT A.As):=by
 have Am:=@wL P w K mg base A T;refine T.Ft.have yf (λvs H Q E z=>?_) ?_
 ·obtain⟨x,rfl,_⟩:=z;rfl
 ·intro f cdv A' outer s H vs Q E hr z;obtain⟨x,rfl,hk,q⟩:=z;refine⟨_,(FC (hE (iH (XG (DD Am (hr.mono (by decide)) GC (iC (eC 0) (iC yC (iC (QN rfl T.Gj) rC)))))) (FC (QG OG rfl T.Iz (iC LG rC))) kE)),?_⟩;unfold sp_is_within;rfl';refine⟨hk,?_⟩;cases e:UD x 0 3 with
  |true=>rw[e,iA rfl] at q;exact wD q
  |false=>rw[e,fA (show ¬false=true by decide)] at q;exact xD q
def Bu (p:Addr) (H H':Hp):Prop:=∀c o,H c=some o->c≠p->H' c=some o
def N7 (C:Addr):Sp:=λvs H Q ο=>∃(p a b:Addr) (rs parts:List Rn) (x n:Int) (ws:List V),vs=[.ref p,.int x,.int n,.ref b]/\aE C H p a rs/\qD rs/\rs.length<=100000/\H b=some (.lst ws)/\oC H ws parts/\parts.length<=100000/\∀a' H',aE C H' p a' (AL rs x n parts)->Bu p H H'->Q .non H'
theorem xO (T:fD K mg A):AC P w K mg base A.Aa "lay_amid" 5 ["self","first","many","parts"] [] (N7 A.Aa):=by
 have B1:=@f7 P w K mg base A T;have Ay:=@rO P w K mg base A T;have Lb:=@Vg P w K mg base A T;have Ao:=@l7 P w K mg base A T;refine T.Ck.have uL (λvs H Q E z=>?_) ?_
 ·obtain⟨p,a,b,rs,parts,x,n,ws,rfl,_⟩:=z;rfl
 ·intro f cdv A' outer s H vs Q E hr z;obtain⟨p,a,b,rs,parts,x,n,ws,rfl,hS,ho,hlen,hb,hP,hpl,q⟩:=z;obtain⟨dx,vs,h1,h2,h3⟩:=id hS;refine⟨_,(CC (iD (i:=4) uL.nd rfl (Or.inr rfl) (BD aG (eC 1) (eC 2)))
   (CC (iD (i:=5) uL.nd rfl (Or.inl rfl) (HD (eC 0) T.Af Ao (hr.mono (by decide)) GC (iC (BD tH (eC 1) yC) rC)))
   (CC (iD (i:=6) uL.nd rfl (Or.inl rfl) (BD aG (HD (eC 0) T.Af Ao (hr.mono (by decide)) GC (iC (eC 4) rC)) yC))
   (CC (iD (i:=7) uL.nd rfl (Or.inl rfl) (AN EN (cD (eC 0) rfl) (rJ (eC 5)) (rJ (eC 6))))
   (CC (yR (i:=8) uL.nd rfl rfl rfl (BI (eC 7)) (x:="run") (fs:=["first"]) (ix:=[1]) rfl rfl (λο ο ο ο ο ο=>(wF (i:=0) (show (["run","first"]:List Str).Nodup by decide+kernel) rfl (Or.inl rfl))) (λο ο ο ο ο ο=>(bQ (pE vN (GD (dQ (K:=K) rfl) (eC 0) yC (λο ο=>rfl)) (eC 1) (wC _)))) (λο ο ο ο ο ο=>(DD B1 (hr.mono (by decide)) dL (iC (eC 0) (iC (GD (dQ (K:=K) rfl) (eC 0) yC (λο ο=>rfl)) (iC (eC 1) rC))))))
   (CC (yR (i:=9) uL.nd rfl rfl rfl (BI (eC 7)) (x:="run") (fs:=["end"]) (ix:=[4]) rfl rfl (λο ο ο ο ο ο=>(wF (i:=0) (show (["run","end"]:List Str).Nodup by decide+kernel) rfl (Or.inl rfl))) (λο ο ο ο ο ο=>(bQ (pE IK (DD Ay (hr.mono (by decide)) dL (iC (eC 0) rC)) (eC 1) (wC _)))) (λο ο ο ο ο ο=>(DD B1 (hr.mono (by decide)) dL (iC (eC 0) (iC (eC 1) (iC (DD Ay (hr.mono (by decide)) dL (iC (eC 0) rC)) rC))))))
   (FC (xF (eC 0) (BD OP (BD OP (AN EN (cD (eC 0) rfl) R3 (rJ (eC 5))) (DD Lb (hr.mono (by decide)) GC (iC (BD OP (BD OP (eC 8) (eC 3)) (eC 9)) rC))) (AN EN (cD (eC 0) rfl) (rJ (eC 6)) R3)) rfl)))))))),?_⟩
  unfold GT KM k7 JT;rfl';simp only[h1];rfl';refine⟨cG ∅,a,rs,hS,ho,⋯,cG ∅,a,rs,hS,ho,⋯,T.Af,T.Ah,_,SJ,a,rfl,_,QC.of h2,λsl hsl=>⟨⟨_,QC.of IC⟩,?_⟩⟩;have ecut:DE vs (some ((pb rs (x - 1):Nat):Int)) (some (((pb rs (x+n):Nat):Int)+1))=(vs.take (pb rs (x+n)+1)).drop (pb rs (x - 1)):=MT (hi:=pb rs (x+n)+1);rw[ecut];have hnear:oC H ((vs.take (pb rs (x+n)+1)).drop (pb rs (x - 1))) (rE rs (pb rs (x - 1)) (pb rs (x+n)+1)):=qQ _ (pQ _ h3);have hnl:(rE rs (pb rs (x - 1)) (pb rs (x+n)+1)).length<=100000:=by
   unfold rE;rw[List.length_drop,cB];omega
  have q':∀a' H',aE A.Aa H' p a' (rs.take (pb rs (x - 1))++jn (((rE rs (pb rs (x - 1)) (pb rs (x+n)+1)).filter λr=>decide (r.f < x)).map (λr=>UE r r.f x)++parts++((rE rs (pb rs (x - 1)) (pb rs (x+n)+1)).filter λr=>decide (aD r > x+n)).map (λr=>UE r (x+n) (aD r)))++rs.drop (pb rs (x+n)+1))->Bu p H H'->Q .non H':=q;generalize (vs.take (pb rs (x+n)+1)).drop (pb rs (x - 1))=nv at *;generalize rE rs (pb rs (x - 1)) (pb rs (x+n)+1)=near at *;intro D1 hD1;have s1:=bE (o:=.lst nv) LD hsl;have hnvl:nv.length=near.length:=Paired.length hnear;have flen:∀(i:Nat) (g:Rn->Bool),((near.take i).filter g).length<=100000:=λi g=>dB (bB _ _) (by rw[cB];omega);refine cQ (xs:=nv) (λi ys σ H'=>∃v,σ=[v,some (.int x)]/\uC (jC H sl (.lst nv)) H'/\H' D1=some (.lst ys)/\oC H' ys (((near.take i).filter λr=>decide (r.f < x)).map λr=>UE r r.f x)) ⟨_,rfl,bE LD hD1,IC,.nil⟩ (λi ys σ H' _ zz=>by obtain⟨_,zz⟩:=zz;exact QC.of (zz.2.1 _ _ IC)) (λi v ys σ H' hi=>?_) (λys σ H'=>?_)
  ·rintro⟨v0,rfl,s2,hDD,hys⟩;obtain⟨r,hr1,hr2⟩:=RI hnear hi;have hrx:=hr2.same (s1.trans s2);have htk:near.take (i+1)=near.take i++[r]:=by rw[NA,hr1];rfl
   have hyl:ys.length<=100000:=by
    have h4:=Paired.length hys;rw[cA] at h4;have:=flen i λr=>decide (r.f < x);omega
   rw[htk,JB,gA];obtain⟨c,cv,rfl,hc,hcv⟩:=id hrx;rfl';refine⟨_,ZC.of hc,_,rfl,_,rfl,?_⟩;by_cases c1:r.f < x
   ·rw[iA c1];refine⟨_,ZC.of hc,_,rfl,r,_,rfl,hrx,λu H2 s3 hu=>?_⟩;have hD2:=s3 _ _ hDD;refine⟨hD2,⋯,SH (s2.trans s3) hD1,?_⟩;have ef:[r].filter (λr=>decide (r.f < x))=[r]:=by rw[uB,nA c1];rfl
    rw[ef];exact TH (oC.same2 (H:=H2) (oC.same hys s3) hD2 LD) (.cons (VC.same2 (H:=H2) hu hD2 LD) .nil)
   ·rw[fA c1];have ef:[r].filter (λr=>decide (r.f < x))=[]:=by rw[uB,HA c1];rfl
    rw[ef,BB,GB];exact⟨s2,hDD,hys⟩
  rintro⟨v0,rfl,s2,hA,hys⟩;rw[hnvl,VA] at hys;have hsl1:=s2 _ _ (IC (H:=H) (a:=sl) (o:=.lst nv));refine⟨⟨_,QC.of hsl1⟩,λD2 hD2=>?_⟩;have s12:=s1.trans s2;refine cQ (xs:=nv) (λi zs σ H2=>∃v,σ=[v,some (.int (x+n))]/\uC H' H2/\H2 D2=some (.lst zs)/\oC H2 zs (((near.take i).filter λr=>decide (aD r > x+n)).map λr=>UE r (x+n) (aD r))) ⟨_,rfl,bE LD hD2,IC,.nil⟩ (λi ys σ H' _ zz=>by obtain⟨_,zz⟩:=zz;exact QC.of (zz.2.1 _ _ hsl1)) (λi v zs σ H2 hi=>?_) (λzs σ H2=>?_)
  ·rintro⟨v0,rfl,s3,hDD,hzs⟩;obtain⟨r,hr1,hr2⟩:=RI hnear hi;have hrx:=hr2.same (s12.trans s3);have htk:near.take (i+1)=near.take i++[r]:=by rw[NA,hr1];rfl
   have hyl:zs.length<=100000:=by
    have h4:=Paired.length hzs;rw[cA] at h4;have:=flen i λr=>decide (aD r > x+n);omega
   rw[htk,JB,gA];rfl';refine⟨r,hrx,?_⟩;by_cases c1:aD r > x+n
   ·rw[iA (show x+n < aD r from c1)];refine⟨r,hrx,r,hrx,λu H3 s4 hu=>?_⟩;have hD3:=s4 _ _ hDD;refine⟨hD3,⋯,SH (s3.trans s4) hD2,?_⟩;have ef:[r].filter (λr=>decide (aD r > x+n))=[r]:=by rw[uB,nA c1];rfl
    rw[ef];exact TH (oC.same2 (H:=H3) (oC.same hzs s4) hD3 LD) (.cons (VC.same2 (H:=H3) hu hD3 LD) .nil)
   ·rw[fA (show ¬x+n < aD r from c1)];have ef:[r].filter (λr=>decide (aD r > x+n))=[]:=by rw[uB,HA c1];rfl
    rw[ef,BB,GB];exact⟨s3,hDD,hzs⟩
  rintro⟨v0,rfl,s3,hB,hzs⟩;rw[hnvl,VA] at hzs;have s13:=s12.trans s3;have sH2:uC H H2:=s13;refine⟨_,dx,_,s13 _ _ h1,T.Af,T.Ah,_,SJ,a,rfl,_,QC.of (s13 _ _ h2),λq1 hq1=>?_⟩;rw[Wg];have s4:=bE (o:=.lst (vs.take (pb rs (x - 1)))) LD hq1;have hq1':jC H2 q1 (.lst (vs.take (pb rs (x - 1)))) q1=some (.lst (vs.take (pb rs (x - 1)))):=IC;have hA4:=s4 _ _ (s3 _ _ hA);have hB4:=s4 _ _ hB;have hb4:=s4 _ _ (s13 _ _ hb);have s14:=s13.trans s4;generalize jC H2 q1 (.lst (vs.take (pb rs (x - 1))))=H4 at *;have ly:ys.length<=100000:=by
   have h4:=Paired.length hys;rw[cA] at h4;have:=bB (λr:Rn=>decide (r.f < x)) near;omega
  have lz:zs.length<=100000:=by
   have h4:=Paired.length hzs;rw[cA] at h4;have:=bB (λr:Rn=>decide (aD r > x+n)) near;omega
  have lw:ws.length<=100000:=by rw[Paired.length hP];exact hpl
  refine⟨_,hA4,_,hb4,⋯,λq2 hq2=>?_⟩;have s5:=bE (o:=.lst (ys++ws)) LD hq2;have hq2':jC H4 q2 (.lst (ys++ws)) q2=some (.lst (ys++ws)):=IC;have hB5:=s5 _ _ hB4;have hq15:=s5 _ _ hq1';have s15:=s14.trans s5;generalize jC H4 q2 (.lst (ys++ws))=H5 at *;refine⟨_,rfl,_,hB5,by rw[oA];omega,λq3 hq3=>?_⟩;have s6:=bE (o:=.lst (ys++ws++zs)) LD hq3;have hq3':jC H5 q3 (.lst (ys++ws++zs)) q3=some (.lst (ys++ws++zs)):=IC;have hq16:=s6 _ _ hq15;have s16:=s15.trans s6;have s26:uC H2 (jC H5 q3 (.lst (ys++ws++zs))):=s4.trans (s5.trans s6);generalize jC H5 q3 (.lst (ys++ws++zs))=H6 at *;have hall:oC H6 (ys++ws++zs) ((near.filter λr=>decide (r.f < x)).map (λr=>UE r r.f x)++parts++(near.filter λr=>decide (aD r > x+n)).map (λr=>UE r (x+n) (aD r))):=
   TH (TH (oC.same hys (s3.trans s26)) (oC.same hP s16)) (oC.same hzs s26)
  have hallL:((near.filter λr=>decide (r.f < x)).map (λr=>UE r r.f x)++parts++(near.filter λr=>decide (aD r > x+n)).map (λr=>UE r (x+n) (aD r))).length<=1000000:=by
   rw[<-Paired.length hall,oA,oA];omega
  refine⟨_,QC.of hq3',_,hall,hallL,λt us H7 s7 ht0 ht hU=>?_⟩;have s17:=s16.trans s7;have hus:us.length<=1000000:=by
   rw[Paired.length hU];have:=IT ((near.filter λr=>decide (r.f < x)).map (λr=>UE r r.f x)++parts++(near.filter λr=>decide (aD r > x+n)).map (λr=>UE r (x+n) (aD r))) [];unfold jn;simp only[List.length_nil,Nat.zero_add] at this;omega
  have lv:vs.length<=100000:=by rw[Paired.length h3];exact hlen
  refine⟨_,s7 _ _ hq16,_,ht,by rw[cB];omega,λq4 hq4=>?_⟩;have s8:=bE (o:=.lst (vs.take (pb rs (x - 1))++us)) LD hq4;have hq4':jC H7 q4 (.lst (vs.take (pb rs (x - 1))++us)) q4=some (.lst (vs.take (pb rs (x - 1))++us)):=IC;have s18:=s17.trans s8;generalize jC H7 q4 (.lst (vs.take (pb rs (x - 1))++us))=H8 at *;refine⟨_,dx,_,s18 _ _ h1,T.Af,T.Ah,_,SJ,a,rfl,_,QC.of (s18 _ _ h2),λq5 hq5=>?_⟩;have ecf:DE vs (some (((pb rs (x+n):Nat):Int)+1)) none=vs.drop (pb rs (x+n)+1):=Xg (lo:=pb rs (x+n)+1);rw[ecf];have s9:=bE (o:=.lst (vs.drop (pb rs (x+n)+1))) LD hq5;have hq5':jC H8 q5 (.lst (vs.drop (pb rs (x+n)+1))) q5=some (.lst (vs.drop (pb rs (x+n)+1))):=IC;have hq49:=s9 _ _ hq4';have s19:=s18.trans s9;have s79:=s8.trans s9;generalize jC H8 q5 (.lst (vs.drop (pb rs (x+n)+1)))=H9 at *;refine⟨_,hq49,_,rfl,by rw[oA,cB,List.length_drop];omega,λq6 hq6=>?_⟩;have s10:=bE (o:=.lst (vs.take (pb rs (x - 1))++us++vs.drop (pb rs (x+n)+1))) LD hq6;have hq6':jC H9 q6 (.lst (vs.take (pb rs (x - 1))++us++vs.drop (pb rs (x+n)+1))) q6=some (.lst (vs.take (pb rs (x - 1))++us++vs.drop (pb rs (x+n)+1))):=IC;have s110:=s19.trans s10;have s710:=s79.trans s10;generalize jC H9 q6 (.lst (vs.take (pb rs (x - 1))++us++vs.drop (pb rs (x+n)+1)))=H10 at *;have hpq:q6≠p:=LC hq6' (s110 _ _ h1) λz=>nomatch z;refine⟨_,dx,_,s110 _ _ h1,T.Af,T.Ah,by show 1 < 1000;decide,?_⟩;have hrun:∀{v:V} {r:Rn} {o:HO},VC H10 v r->VC (jC H10 p o) v r:=λ{v r o} h=>by
   obtain⟨c,cv,e,hc,hcv⟩:=h;refine⟨c,cv,e,by rw[vC (LC hc (s110 _ _ h1) λz=>nomatch z)];exact hc,?_⟩;cases ht:r.t with
   |none=>rw[ht] at hcv;exact hcv
   |some tt=>
    obtain⟨b2,k2⟩:=tt;rw[ht] at hcv;obtain⟨c2,e2,h2⟩:=hcv;exact⟨c2,e2,by rw[vC (LC h2 (s110 _ _ h1) λz=>nomatch z)];exact h2⟩
  refine q' q6 _ ⟨dx,_,IC,by rw[vC hpq];exact hq6',?_⟩ λc o hc hne=>by rw[vC hne];exact s110 _ _ hc
  have hfin:oC H10 (vs.take (pb rs (x - 1))++us++vs.drop (pb rs (x+n)+1)) (rs.take (pb rs (x - 1))++jn ((near.filter λr=>decide (r.f < x)).map (λr=>UE r r.f x)++parts++(near.filter λr=>decide (aD r > x+n)).map (λr=>UE r (x+n) (aD r)))++rs.drop (pb rs (x+n)+1)):=
   TH (TH (oC.same (pQ _ h3) s110) (oC.same hU s710)) (oC.same (qQ _ h3) s110)
  exact Paired.mapP hfin λο ο h=>hrun h
def sQ (C BR TK:Addr):Sp:=λvs H Q E=>∃(p a:Addr) (rs:List Rn) (x n r:Int) (tv:V) (t:Option (Int×Int)),vs=[.ref p,.int x,.int n,.int r,tv]/\aE C H p a rs/\qD rs/\rs.length<=100000/\rD H tv t/\
 if 0<=r/\r<=3 then (if lG rs x n=[] then ∀a' H',aE C H' p a' (AL rs x n [⟨x,n,r,t⟩])->Bu p H H'->Q .non H' else ∀H',uC H H'->E (.ref TK) none H') else E (.ref BR) none H
theorem Zg (T:fD K mg A):eF P w K mg base "Stretches.put" QI ["self","first","many","rights","tie"] 5 (sQ A.Aa A.As A.Bb):=by
 have Bn:=@wO P w K mg base A T;have C9:=@EL P w K mg base A T;have Co:=@xO P w K mg base A T
 ·intro f cdv A' outer s H vs Q E hr z;obtain⟨p,a,rs,x,n,r,tv,t,rfl,hS,ho,hlen,hT,q⟩:=z;obtain⟨dx,vs,h1,h2,h3⟩:=id hS;refine⟨_,(CC (GE (DD Bn (hr.mono (by decide)) GC (iC (eC 3) rC)))
   (CC (hE (iH (XG (HD (eC 0) T.Af C9 (hr.mono (by decide)) GC (iC (eC 1) (iC (eC 2) rC))))) (FC (QG OG rfl T.Lh (iC LG rC))) kE)
   (FC (GE (HD (eC 0) T.Af Co (hr.mono (by decide)) GC (iC (eC 1) (iC (eC 2) (iC (gI (iC (NG (iC (eC 1) (iC (eC 2) (iC (eC 3) (iC (eC 4) rC))))) rC)) rC)))))))),?_⟩
  unfold RT p7 N7;rfl';simp only[h1];rfl';by_cases c:0<=r/\r<=3
  ·rw[iA c] at q;rw[iA (by rw[FH,nA c.1,nA c.2];rfl)];refine⟨cG ∅,a,rs,hS,ho,⋯,λH1 s1=>?_⟩;by_cases c2:lG rs x n=[]
   ·rw[iA c2] at q;rw[nA c2];refine wD ⟨dx,_,s1 _ _ h1,cG ∅,λtp htp lp hlp=>?_⟩;have s2:=bE (o:=.tup [V.int x,V.int n,V.int r,tv]) s1 htp;have s3:=bE (o:=.lst [V.ref tp]) s2 hlp;have s23:=bE (o:=.lst [V.ref tp]) LD hlp;exact⟨a,rs,hS.same s3,ho,hlen,[⟨x,n,r,t⟩],[.ref tp],rfl,.cons ⟨tp,tv,rfl,s23 _ _ IC,hT.same s3⟩ .nil,by show 1<=100000;decide,λa' H' hS' hB=>q a' H' hS' λc o hc hne=>hB c o (s3 c o hc) hne⟩
   ·rw[fA c2] at q;rw[HA c2];exact xD (q _ s1)
  ·rw[fA c] at q;rw[fA (by rw[FH];simpa using c)];exact q
theorem ah {C BR TK:Addr}:∀vs H Q E,sQ C BR TK vs H Q E->vs.length=5:=λvs H Q E z=>by
 obtain⟨p,a,rs,x,n,r,tv,t,rfl,_⟩:=z;rfl
theorem bh (T:fD K mg A):AC P w K mg base A.Aa "put" 6 ["self","first","many","rights","tie"] [] (sQ A.Aa A.As A.Bb):=T.E7.have Rf ah (Zg T)
theorem FL {C:Addr} {H:Hp} {x dx a:Addr} (h1:H x=none) (h2:H dx=none) (h4:jC (jC H dx (.own x)) x (.ins C dx []) a=none):
  aE C (jC (jC (jC (jC H dx (.own x)) x (.ins C dx [])) a (.lst [])) x (.ins C dx (IG a))) x a []/\uC H (jC (jC (jC (jC H dx (.own x)) x (.ins C dx [])) a (.lst [])) x (.ins C dx (IG a))):=by
 have hax:a≠x:=λe=>by subst e;rw[IC] at h4;cases h4
 refine⟨⟨dx,[],IC,by rw[vC hax,IC],.nil⟩,λb o hb=>?_⟩;have hbx:b≠x:=bD hb h1;have hbd:b≠dx:=bD hb h2;have hba:b≠a:=λe=>by subst e;rw[vC hbx,vC hbd,hb] at h4;cases h4
 rw[vC hbx,vC hba,vC hbx,vC hbd];exact hb
def O7 (C:Addr):Sp:=λvs H Q ο=>∃(p a:Addr) (rs:List Rn),vs=[.ref p]/\aE C H p a rs/\∀p' a' H',uC H H'->H p'=none->aE C H' p' a' rs->Q (.ref p') H'
theorem dh (T:fD K mg A):AC P w K mg base A.Aa "copied" 3 ["self"] [] (O7 A.Aa):=by
 have Bf:=@M7 P w K mg base A T;refine T.Dc.have W6 (λvs H Q E z=>?_) ?_
 ·obtain⟨p,a,rs,rfl,_⟩:=z;rfl
 ·intro f cdv A' outer s H vs Q E hr z;obtain⟨p,a,rs,rfl,hS,q⟩:=z;obtain⟨dx,vs,h1,h2,h3⟩:=id hS;refine⟨_,(CC (iD (i:=1) W6.nd rfl (Or.inl rfl) (Q4 Bf (hr.mono (by decide)) GC))
   (CC (xF (eC 1) (iI GN rfl T.B7 DB (iC (cD (eC 0) rfl) rC)) rfl)
   (FC (uD (eC 1))))),?_⟩
  unfold QT;rfl';intro x' dx' hx' hdx' hne' a' ha';obtain⟨hS1,sm1⟩:=FL hx' hdx' ha';generalize jC (jC (jC (jC H dx' (.own x')) x' (.ins A.Aa dx' [])) a' (.lst [])) x' (.ins A.Aa dx' (IG a'))=H1 at *;refine⟨_,dx,_,sm1 _ _ h1,T.Af,T.Ah,_,SJ,a,rfl,_,.inl (QC.of (sm1 _ _ h2)),λl hl=>?_⟩;obtain⟨dy,vy,hy,_⟩:=id hS1;have b1:=bE (o:=.lst vs) (LD (H:=H1)) hl;refine⟨_,dy,_,b1 _ _ hy,T.Af,T.Ah,by show 1 < 1000;decide,?_⟩;have hlx:l≠x':=λe=>by rw[e,hy] at hl;cases hl
  have ep:nC "runs" (.ref l) (IG a')=IG l:=rfl;refine q _ l _ ?_ hx' ?_
  ·exact SH (sm1.trans b1) hx'
  ·rw[ep];exact⟨dy,vs,IC,by rw[vC hlx,IC],oC.same h3 (SH (sm1.trans b1) hx')⟩
noncomputable abbrev Kvs:=List (Key×V)
def zD (kvs:Kvs):List Key:=kvs.map (·.1)
def UH (ks:List Key) (k:Nat):Prop:=(Sum.inl (k:Int):Key)∉ks/\∀j:Nat,j < k->(Sum.inl (j:Int):Key)∈ks
theorem UH.one {ks:List Key} {a b:Nat} (h:UH ks a) (g:UH ks b):a=b:=by
 rcases Nat.lt_trichotomy a b with q|q|q
 ·exact absurd (g.2 a q) h.1
 ·exact q
 ·exact absurd (h.2 b q) g.1
theorem P7:∀(i:Nat) (ks:List Int),(∀j:Nat,j < i->(j:Int)∈ks)->i<=ks.length
 |0,_,_=>aC _
 |i+1,ks,h=>by
  have hm:=h i (Nat.lt_succ_self i);have:=P7 i (ks.erase (i:Int)) λj hj=>(List.mem_erase_of_ne ⋯).mpr (h j ⋯);rw[List.length_erase_of_mem hm] at this;have:=List.length_pos_of_mem hm;omega
def kI:Key->Int
 |.inl i=>i
 |.inr _=>0
theorem GL (i:Nat) (ks:List Key) (h:∀j:Nat,j < i->(Sum.inl (j:Int):Key)∈ks):i<=ks.length:=by
 have:=P7 i (ks.map kI) λj hj=>bA.mpr ⟨_,h j hj,rfl⟩;rwa[cA] at this
theorem UT {kvs:Kvs} {k:Key} (h:k∈zD kvs):(gC kvs k).isSome=true:=by
 cases e:gC kvs k with
 |none=>exact absurd h (M4 e)
 |some v=>rfl
theorem VT {kvs:Kvs} {k:Key} (h:k∉zD kvs):(gC kvs k).isSome=false:=by
 cases e:gC kvs k with
 |none=>rfl
 |some v=>exact absurd (gR e) h
theorem fh {kvs:Kvs} {k:Key} (h:k∈zD kvs):∃v,gC kvs k=some v:=by
 cases e:gC kvs k with
 |none=>exact absurd h (M4 e)
 |some v=>exact⟨v,rfl⟩
theorem Q7 {kvs:Kvs} {k:Key} (h:k∉zD kvs):gC kvs k=none:=by
 cases e:gC kvs k with
 |none=>rfl
 |some v=>exact absurd (gR e) h
theorem gh {kvs:Kvs} {k:Key} {v:V} (h:gC kvs k=some v):(k,v)∈kvs:=by
 unfold gC at h;cases e:kvs.find? λkv=>decide (kv.1=k) with
 |none=>rw[e] at h;cases h
 |some p=>
  rw[e] at h;cases h;have h1:=sB e;have h2:=WA e;have h3:p.1=k:=by simpa using h1
  rw[<-h3];exact h2
theorem HL {kvs:Kvs} {k:Key} {v:V} (h:k∉zD kvs):JC kvs k v=kvs++[(k,v)]:=sJ v (Q7 h)
def dH (ks:List Key):Prop:=∀k∈ks,∃i:Int,k=Sum.inl i
theorem dH.ns:∀{ks:List Key},dH ks->ks=(ks.map kI).map Sum.inl
 |[],_=>rfl
 |k::ks,h=>by
  obtain⟨i,rfl⟩:=h k qA;rw[yA,yA,<-dH.ns (ks:=ks) λx hx=>h x (xA _ hx)]
  rfl
theorem dH.drop {ks:List Key} {k:Key} (h:dH ks):dH (ks.filter λx=>decide (x≠k)):=λx hx=>h x (AA.mp hx).1
def Kd (d:Addr) (H H':Hp):Prop:=∀c o,H c=some o->c≠d->H' c=some o
theorem Kd.trans {d:Addr} {H H1 H2:Hp} (a:Kd d H H1) (b:Kd d H1 H2):Kd d H H2:=λc o h hn=>b c o (a c o h hn) hn
theorem Kd.of {d:Addr} {H H':Hp} (s:uC H H'):Kd d H H':=λc o h ο=>s c o h
theorem sE {d:Addr} {H:Hp} {o:HO}:Kd d H (jC H d o):=λc u h hn=>by rw[vC hn];exact h
def sp_least_free:Sp:=λvs H Q ο=>∃(a:Addr) (kvs:Kvs),vs=[.ref a]/\H a=some (.dK kvs)/\∀k:Nat,UH (zD kvs) k->Q (.int k) H
theorem WT (T:fD K mg A):TD P w K mg base "least_free" 1 ["numbers"] [] sp_least_free:=by
 refine T.Ha.have tS (λvs H Q E z=>?_) ?_
 ·obtain⟨a,kvs,rfl,_⟩:=z;rfl
 ·intro f cdv A' outer s H vs Q E hr z;obtain⟨a,kvs,rfl,ha,q⟩:=z;refine⟨_,(CC (iD (i:=1) tS.nd rfl (Or.inl rfl) yC)
   (CC (R5 aB (bJ (dR (dD hr) (eC 1) (eC 0))) (FC (iD (i:=1) tS.nd rfl (Or.inl rfl) (BD aG (eC 1) yC))))
   (FC (uD (eC 1))))),?_⟩
  unfold II;rfl';refine S5 (λm σ H'=>∃i:Nat,σ=[some (.ref a),some (.int i)]/\H'=H/\m+i=kvs.length+1/\∀j:Nat,j < i->(Sum.inl (j:Int):Key)∈zD kvs) (kvs.length+1) ⟨0,rfl,rfl,rfl,λj h=>absurd h (Nat.not_lt_zero _)⟩ (λm σ H'=>?_);rintro⟨i,rfl,rfl,hm,hj⟩;rfl';refine⟨_,.inl ⟨kvs,Sum.inl (i:Int),.inl ha,rfl,rfl⟩,?_⟩;by_cases c:(Sum.inl (i:Int):Key)∈zD kvs
  ·rw[UT c];have hj':∀j:Nat,j < i+1->(Sum.inl (j:Int):Key)∈zD kvs:=λj h=>by
    rcases Nat.lt_succ_iff_lt_or_eq.mp h with q|rfl
    ·exact hj j q
    ·exact c
   have hle:=GL (i+1) (zD kvs) hj';have hlk:(zD kvs).length=kvs.length:=by unfold zD;rw[cA]
   refine xD (EJ ?_);rfl';exact⟨m - 1,⋯,i+1,rfl,⋯,hj'⟩
  ·rw[VT c];refine wD ?_;exact q i ⟨c,hj⟩
def IL (sh td bd:Addr):List (Str×V):=nC "banks" (.ref bd) (nC "tasks" (.ref td) (nC "shape" (.ref sh) []))
theorem pI {sh td bd:Addr}:(IL sh td bd).lookup ("tasks":Str)=some (.ref td):=by rfl
theorem tQ {sh td bd:Addr}:(IL sh td bd).lookup ("banks":Str)=some (.ref bd):=by rfl
theorem DF {sh td bd:Addr} {m:Str} (h:¬m∈(["shape","tasks","banks"]:List Str)):(IL sh td bd).lookup m=none:=by
 simp only[vA,fB,or_false,not_or] at h;unfold IL;simp only[EM,h.1,h.2.1,h.2.2,bC]
 rfl
set_option genInjectivity false in
structure Hz where
 p:Addr
 sh:Addr
 td:Addr
 bd:Addr
def R7 (C:Addr):Sp:=λvs H Q ο=>∃(p dx sh:Addr),vs=[.ref p,.ref sh]/\H p=some (.ins C dx [])/\∀td bd H',H td=none->H bd=none->td≠bd->Kd p H H'->H' p=some (.ins C dx (IL sh td bd))->H' td=some (.dK [])->H' bd=some (.dK [])->Q .non H'
theorem jh (T:fD K mg A):XE P w K mg base "House" A.Ad 1 ["self","shape"] [] (R7 A.Ad):=by
 refine T.Hb.have Uf (λvs H Q E z=>?_) ?_
 ·obtain⟨p,dx,sh,rfl,_⟩:=z;rfl
 ·intro f cdv A' outer s H vs Q E hr z;obtain⟨p,dx,sh,rfl,hp,q⟩:=z;refine⟨_,(CC (xF (eC 0) (eC 1) rfl)
   (CC (xF (eC 0) JI rfl)
   (FC (xF (eC 0) JI rfl)))),?_⟩
  rfl';simp only[hp];rfl';refine⟨T.Ag,T.Bc,λtd htd=>?_⟩;have ntp:td≠p:=λz=>by rw[z,IC] at htd;cases htd
  have htd0:H td=none:=by rw[vC ntp] at htd;exact htd
  refine⟨_,dx,_,by rw[vC ntp.symm,IC],T.Ag,T.An,by show 1 < 1000;decide,λbd hbd=>?_⟩;have nbp:bd≠p:=λz=>by rw[z,IC] at hbd;cases hbd
  rw[vC nbp] at hbd;have nbt:bd≠td:=λz=>by rw[z,IC] at hbd;cases hbd
  rw[vC nbt,vC nbp] at hbd;refine⟨_,dx,_,by rw[vC nbp.symm,IC],T.Ag,T.A0,by show 2 < 1000;decide,?_⟩;refine q td bd _ htd0 hbd nbt.symm (λc o h hn=>?_) IC (by rw[vC ntp,vC nbt.symm,vC ntp,IC]) (by rw[vC nbp,IC]);rw[vC hn,vC (bD h hbd),vC hn,vC (bD h htd0),vC hn];exact h
theorem XT {sh td bd:Addr}:(IL sh td bd).lookup ("shape":Str)=some (.ref sh):=by rfl
set_option genInjectivity false in
structure Tk where
 n:Int
 p:Addr
 rs:List Rn
def KD (tks:List Tk):Kvs:=tks.map λt=>((Sum.inl t.n:Key),V.ref t.p)
def fF (S:Addr) (H:Hp) (t:Tk):Prop:=∃a,aE S H t.p a t.rs/\qD t.rs/\t.rs.length<=10000
structure WD (A:RC) (H:Hp) (z:Hz) (l f g:Int) (tks:List Tk) (bk:Kvs):Prop where
 me:∃dx,H z.p=some (.ins A.Ad dx (IL z.sh z.td z.bd))
 sh:tD A.Ae H z.sh l f g
 t:H z.td=some (.dK (KD tks))
 b:H z.bd=some (.dK bk)
 st:∀t∈tks,fF A.Aa H t
 nd:(tks.map Tk.p).Nodup
 nk:(tks.map Tk.n).Nodup
 vb:∀kv∈bk,∃i:Int,kv.2=.int i
 ne:z.td≠z.bd
 np:∀t∈tks,t.p≠z.p/\t.p≠z.sh
theorem fF.same {S:Addr} {H H':Hp} {t:Tk} (h:fF S H t) (s:uC H H'):fF S H' t:=let ⟨a,h1,h2⟩:=h;⟨a,h1.same s,h2⟩
theorem WD.same {A:RC} {H H':Hp} {z:Hz} {l f g:Int} {tks:List Tk} {bk:Kvs} (h:WD A H z l f g tks bk) (s:uC H H'):WD A H' z l f g tks bk:=
 ⟨let ⟨dx,e⟩:=h.me;⟨dx,s _ _ e⟩,h.sh.same s,s _ _ h.t,s _ _ h.b,λt ht=>(h.st t ht).same s,h.nd,h.nk,h.vb,h.ne,h.np⟩
theorem rD.kd {H H':Hp} {d:Addr} {v:V} {o:HO} (hd:H d=some o) (ho:∀xs,o≠.tup xs) (k:Kd d H H'):∀{t:Option (Int×Int)},rD H v t->rD H' v t
 |none,h=>h
 |some (b,i),⟨a,e,h⟩=>⟨a,e,k _ _ h (LC h hd (λz=>ho _ z.symm))⟩
theorem oC.kd {H H':Hp} {d:Addr} {o:HO} (hd:H d=some o) (ho:∀xs,o≠.tup xs) (k:Kd d H H') {vs:List V} {rs:List Rn} (h:oC H vs rs):oC H' vs rs:=
 Paired.mapP h λ_ _ ⟨a,tv,e,h1,h2⟩=>⟨a,tv,e,k _ _ h1 (LC h1 hd (λz=>ho _ z.symm)),h2.kd hd ho k⟩
theorem fF.kd {S d:Addr} {H H':Hp} {t:Tk} {kvs:Kvs} (h:fF S H t) (hd:H d=some (.dK kvs)) (k:Kd d H H'):fF S H' t:=
 let ⟨a,⟨dx,vs,h1,h2,h3⟩,h4⟩:=h
 ⟨a,⟨dx,vs,k _ _ h1 (LC h1 hd (λz=>nomatch z)),k _ _ h2 (LC h2 hd (λz=>nomatch z)),h3.kd hd (λο z=>nomatch z) k⟩,h4⟩
theorem fF.bu {S p:Addr} {H H':Hp} {t:Tk} {dx:Addr} {fs:List (Str×V)} (h:fF S H t) (hp:H p=some (.ins S dx fs)) (hn:t.p≠p) (k:Bu p H H'):fF S H' t:=
 let ⟨a,⟨dx1,vs,h1,h2,h3⟩,h4⟩:=h
 ⟨a,⟨dx1,vs,k _ _ h1 hn,k _ _ h2 (LC h2 hp (λz=>nomatch z)),h3.kd hp (λο z=>nomatch z) k⟩,h4⟩
def gF (n:Int) (rs:List Rn) (tks:List Tk):List Tk:=tks.map λt=>if t.n=n then {t with rs:=rs} else t
theorem JL {n:Int} {rs:List Rn} {tks:List Tk}:KD (gF n rs tks)=KD tks:=by
 unfold KD gF;rw[lA];refine DA λt ο=>?_;show ((Sum.inl (if t.n=n then {t with rs:=rs} else t).n:Key),V.ref (if t.n=n then {t with rs:=rs} else t).p)=_;by_cases h:t.n=n
 ·rw[iA h]
 ·rw[fA h]
theorem S7 {n:Int} {rs:List Rn} {tks:List Tk}:(gF n rs tks).map Tk.p=tks.map Tk.p:=by
 unfold gF;rw[lA];refine DA λt ο=>?_;show (if t.n=n then {t with rs:=rs} else t).p=t.p;by_cases h:t.n=n
 ·rw[iA h]
 ·rw[fA h]
theorem T7 {n:Int} {rs:List Rn} {tks:List Tk}:(gF n rs tks).map Tk.n=tks.map Tk.n:=by
 unfold gF;rw[lA];refine DA λt ο=>?_;show (if t.n=n then {t with rs:=rs} else t).n=t.n;by_cases h:t.n=n
 ·rw[iA h]
 ·rw[fA h]
theorem UJ {α β:Type} {f:α->β}:∀{xs:List α} {a b:α},(xs.map f).Nodup->a∈xs->b∈xs->f a=f b->a=b
 |[],_,_,_,h,_,_=>by simp at h
 |x::xs,a,b,nd,ha,hb,e=>by
  rw[yA,OA] at nd;rcases vA.mp ha with e1|h1<;>rcases vA.mp hb with e2|h2
  ·rw[e1,e2]
  ·exact absurd (bA.mpr ⟨b,h2,by rw[<-e,e1]⟩) nd.1
  ·exact absurd (bA.mpr ⟨a,h1,by rw[e,e2]⟩) nd.1
  ·exact UJ nd.2 h1 h2 e
theorem WD.set {A:RC} {H H':Hp} {z:Hz} {l f g:Int} {tks:List Tk} {bk:Kvs} {t:Tk} {a':Addr} {rs':List Rn} (h:WD A H z l f g tks bk) (ht:t∈tks) (hS:aE A.Aa H' t.p a' rs') (ho:qD rs') (hl:rs'.length<=10000) (k:Bu t.p H H'):WD A H' z l f g (gF t.n rs' tks) bk:=by
 obtain⟨a,⟨dx,vs,e1,_,_⟩,_⟩:=h.st t ht;obtain⟨dxh,eh⟩:=h.me;obtain⟨dxs,es⟩:=id h.sh;refine⟨⟨dxh,k _ _ eh (h.np t ht).1.symm⟩,⟨dxs,k _ _ es (h.np t ht).2.symm⟩,by rw[JL];exact k _ _ h.t (LC h.t e1 (λz=>nomatch z)),k _ _ h.b (LC h.b e1 (λz=>nomatch z)),λu hu=>?_,by rw[S7];exact h.nd,by rw[T7];exact h.nk,h.vb,h.ne,λu hu=>?_⟩
 ·obtain⟨v,hv,rfl⟩:=bA.mp hu;by_cases hn:v.n=t.n
  ·obtain rfl:v=t:=UJ h.nk hv ht hn;rw[iA rfl];exact⟨a',hS,ho,hl⟩
  ·rw[fA hn];exact (h.st v hv).bu e1 (λz=>hn (by rw[UJ h.nd hv ht z])) k
 ·have hu2:u.p∈(gF t.n rs' tks).map Tk.p:=bA.mpr ⟨u,hu,rfl⟩;rw[S7] at hu2;obtain⟨v,hv,e⟩:=bA.mp hu2;rw[<-e];exact h.np v hv
theorem yO {tks:List Tk} {n:Int} (h:(Sum.inl n:Key)∈zD (KD tks)) (nk:(tks.map Tk.n).Nodup):∃t∈tks,t.n=n/\gC (KD tks) (Sum.inl n)=some (.ref t.p):=by
 obtain⟨v,hv⟩:=fh h;obtain⟨t,ht,e⟩:=bA.mp (gh hv);have e1:(Sum.inl t.n:Key)=Sum.inl n:=congrArg Prod.fst e;have e2:V.ref t.p=v:=congrArg Prod.snd e;exact⟨t,ht,YA e1,by rw[e2];exact hv⟩
def LM (A:RC):Sp:=λvs H Q E=>∃(z:Hz) (l f g:Int) (tks:List Tk) (bk:Kvs) (n:Int),vs=[.ref z.p,.int n]/\WD A H z l f g tks bk/\((Sum.inl n∈zD (KD tks)/\Q .non H)\/(Sum.inl n∉zD (KD tks)/\E (.ref A.At) none H))
theorem VH (T:fD K mg A):AC P w K mg base A.Ad "check_task" 1 ["self","task"] [] (LM A):=by
 refine T.Dd.have Xf (λvs H Q E z=>?_) ?_
 ·obtain⟨z,l,f,g,tks,bk,n,rfl,_⟩:=z;rfl
 ·intro f cdv A' outer s H vs Q E hr z;obtain⟨z,l,f',g,tks,bk,n,rfl,hS,q⟩:=z;obtain⟨dx,h1⟩:=hS.me;refine⟨_,(FC (hE (bJ (NN (dD hr) (eC 1) (cD (eC 0) rfl))) (FC (QG OG rfl T.Kl (iC LG rC))) kE)),?_⟩;unfold qE;rfl';simp only[h1];rfl';refine⟨T.Ag,T.An,_,pI,z.td,rfl,_,.inl ⟨_,Sum.inl n,.inl hS.t,rfl,rfl⟩,?_⟩;rcases q with ⟨h,q⟩|⟨h,q⟩
  ·rw[UT h];exact wD q
  ·rw[VT h];exact xD q
def VJ (A:RC):Sp:=λvs H Q E=>∃(z:Hz) (l f g:Int) (tks:List Tk) (bk:Kvs) (n:Int),vs=[.ref z.p,.int n]/\WD A H z l f g tks bk/\((Sum.inl n∈zD bk/\Q .non H)\/(Sum.inl n∉zD bk/\E (.ref A.A4) none H))
theorem YT (T:fD K mg A):AC P w K mg base A.Ad "check_bank" 1 ["self","bank"] [] (VJ A):=by
 refine T.Df.have Zf (λvs H Q E z=>?_) ?_
 ·obtain⟨z,l,f,g,tks,bk,n,rfl,_⟩:=z;rfl
 ·intro f cdv A' outer s H vs Q E hr z;obtain⟨z,l,f',g,tks,bk,n,rfl,hS,q⟩:=z;obtain⟨dx,h1⟩:=hS.me;refine⟨_,(FC (hE (bJ (NN (dD hr) (eC 1) (cD (eC 0) rfl))) (FC (QG OG rfl T.Km (iC LG rC))) kE)),?_⟩;unfold qE;rfl';simp only[h1];rfl';refine⟨T.Ag,T.A0,_,tQ,z.bd,rfl,_,.inl ⟨bk,Sum.inl n,.inl hS.b,rfl,rfl⟩,?_⟩;rcases q with ⟨h,q⟩|⟨h,q⟩
  ·rw[UT h];exact wD q
  ·rw[VT h];exact xD q
def WJ (A:RC):Sp:=λvs H Q E=>∃(z:Hz) (l f g:Int) (tks:List Tk) (bk:Kvs) (n x m:Int),vs=[.ref z.p,.int n,.int x,.int m]/\WD A H z l f g tks bk/\
 ((Sum.inl n∉zD (KD tks)/\E (.ref A.At) none H)\/(Sum.inl n∈zD (KD tks)/\yE x m (pw (l * f))=false/\E (.ref A.Ar) none H)\/(Sum.inl n∈zD (KD tks)/\yE x m (pw (l * f))=true/\Q .non H))
theorem ZT (T:fD K mg A):AC P w K mg base A.Ad "check_stretch" 5 ["self","task","first","many"] [] (WJ A):=by
 have Ak:=@VH P w K mg base A T;have Ii:=@yL P w K mg base A T;refine T.Ca.have ag (λvs H Q E z=>?_) ?_
 ·obtain⟨z,l,f,g,tks,bk,n,x,m,rfl,_⟩:=z;rfl
 ·intro f cdv A' outer s H vs Q E hr z;obtain⟨z,l,f',g,tks,bk,n,x,m,rfl,hS,q⟩:=z;obtain⟨dx,h1⟩:=hS.me;obtain⟨dxs,h2⟩:=id hS.sh;refine⟨_,(CC (GE (HD (eC 0) T.Ag Ak (hr.mono (by decide)) GC (iC (eC 1) rC)))
   (FC (hE (iH (XG (HD (cD (eC 0) rfl) T.Au Ii (hr.mono (by decide)) GC (iC (eC 2) (iC (eC 3) rC))))) (FC (QG OG rfl T.D7 (iC LG rC))) kE))),?_⟩
  unfold LM a7;rfl';simp only[h1];rfl';refine⟨DF ∅,z,rfl,l,f',g,tks,bk,hS,?_⟩;rcases q with ⟨h,q⟩|⟨h,hf,q⟩|⟨h,hf,q⟩
  ·exact .inr ⟨h,q⟩
  ·refine .inl ⟨h,T.Ag,T.Bc,_,XT,z.sh,rfl,dxs,_,h2,nI ∅,z.sh,rfl,l,f',g,hS.sh,?_⟩;rw[hf];exact xD q
  ·refine .inl ⟨h,T.Ag,T.Bc,_,XT,z.sh,rfl,dxs,_,h2,nI ∅,z.sh,rfl,l,f',g,hS.sh,?_⟩;rw[hf];exact wD q
def V7 (A:RC):Sp:=λvs H Q E=>∃(z:Hz) (l f g:Int) (tks:List Tk) (bk:Kvs) (b st m:Int),vs=[.ref z.p,.int b,.int st,.int m]/\WD A H z l f g tks bk/\
 ((Sum.inl b∉zD bk/\E (.ref A.A4) none H)\/∃i:Int,gC bk (Sum.inl b)=some (.int i)/\((¬(0<=st/\st<=i - m)/\E (.ref A.Av) none H)\/((0<=st/\st<=i - m)/\Q .non H)))
theorem zO (T:fD K mg A):AC P w K mg base A.Ad "check_part_of_bank" 3 ["self","bank","start","many"] [] (V7 A):=by
 have Dt:=@YT P w K mg base A T;have Am:=@wL P w K mg base A T;refine T.Bp.have bg (λvs H Q E z=>?_) ?_
 ·obtain⟨z,l,f,g,tks,bk,b,st,m,rfl,_⟩:=z;rfl
 ·intro f cdv A' outer s H vs Q E hr z;obtain⟨z,l,f',g,tks,bk,b,st,m,rfl,hS,q⟩:=z;obtain⟨dx,h1⟩:=hS.me;refine⟨_,(CC (GE (HD (eC 0) T.Ag Dt (hr.mono (by decide)) GC (iC (eC 1) rC)))
   (FC (hE (iH (XG (DD Am (hr.mono (by decide)) GC (iC (eC 2) (iC yC (iC (BD tH (VD (dD hr) (cD (eC 0) rfl) (eC 1) (λο ο=>rfl)) (eC 3)) rC)))))) (FC (QG OG rfl T.D8 (iC LG rC))) kE))),?_⟩
  unfold VJ sp_is_within pD;rfl';simp only[h1];rfl';refine⟨DF ∅,z,rfl,l,f',g,tks,bk,hS,?_⟩;rcases q with ⟨h,q⟩|⟨i,hi,q⟩
  ·exact .inr ⟨h,q⟩
  ·refine .inl ⟨gR hi,T.Ag,T.A0,_,tQ,z.bd,rfl,_,.inl ⟨bk,Sum.inl b,.inl hS.b,rfl,hi.symm⟩,i,rfl,?_⟩;rw[FH];rcases q with ⟨h,q⟩|⟨⟨h2,h3⟩,q⟩
   ·have e:(decide (0<=st)&&decide (st<=i - m))=false:=by
     rw[Bool.eq_false_iff];intro z;simp only[MA,SA] at z;exact h z
    rw[e];exact xD q
   ·rw[nA h2,nA h3];exact wD q
theorem WD.more {A:RC} {H H':Hp} {z:Hz} {l f g:Int} {tks:List Tk} {bk:Kvs} {k:Int} {p:Addr} (h:WD A H z l f g tks bk) (s:uC H H') (hn:H p=none) (hp:fF A.Aa H' ⟨k,p,[]⟩) (hk:Sum.inl k∉zD (KD tks)):
  WD A (jC H' z.td (.dK (KD (tks++[⟨k,p,[]⟩])))) z l f g (tks++[⟨k,p,[]⟩]) bk:=by
 have hs:=h.same s;obtain⟨dx,e⟩:=hs.me;obtain⟨dxs,es⟩:=id hs.sh;have np:∀t∈tks,t.p≠p:=λt ht z=>by
  obtain⟨a,⟨dx,vs,e1,_⟩,_⟩:=h.st t ht;rw[z,hn] at e1;cases e1
 refine⟨⟨dx,?_⟩,⟨dxs,?_⟩,IC,?_,λt ht=>?_,?_,?_,h.vb,h.ne,λt ht=>?_⟩
 ·rw[vC (LC e hs.t (λz=>nomatch z))];exact e
 ·rw[vC (LC es hs.t (λz=>nomatch z))];exact es
 ·rw[vC h.ne.symm];exact hs.b
 ·rcases dA.mp ht with q|q
  ·exact (hs.st t q).kd hs.t sE
  ·rw[aA.mp q];exact hp.kd hs.t sE
 ·rw[gA,yA,BB,zA];refine⟨h.nd,by simp,λa ha b hb=>?_⟩;obtain⟨t,ht,rfl⟩:=bA.mp ha;rw[aA.mp hb];exact np t ht
 ·rw[gA,yA,BB,zA];refine⟨h.nk,by simp,λa ha b hb z=>?_⟩;obtain⟨t,ht,rfl⟩:=bA.mp ha;rw[aA.mp hb] at z;refine hk ?_;show _∈(KD tks).map (·.1);unfold KD;rw[lA];exact bA.mpr ⟨t,ht,by show (Sum.inl t.n:Key)=_;rw[z]⟩
 ·rcases dA.mp ht with q|q
  ·exact h.np t q
  ·rw[aA.mp q];obtain⟨dx0,e0⟩:=h.me;obtain⟨dx1,e1⟩:=id h.sh;exact⟨(λz=>by rw[<-z,hn] at e0;cases e0),(λz=>by rw[<-z,hn] at e1;cases e1)⟩
theorem WD.bank {A:RC} {H:Hp} {z:Hz} {l f g:Int} {tks:List Tk} {bk bk':Kvs} (h:WD A H z l f g tks bk) (hv:∀kv∈bk',∃i:Int,kv.2=.int i):WD A (jC H z.bd (.dK bk')) z l f g tks bk':=by
 obtain⟨dx,e⟩:=h.me;obtain⟨dxs,es⟩:=id h.sh;exact⟨⟨dx,by rw[vC (LC e h.b (λz=>nomatch z))];exact e⟩,⟨dxs,by rw[vC (LC es h.b (λz=>nomatch z))];exact es⟩,by rw[vC h.ne];exact h.t,IC,λt ht=>(h.st t ht).kd h.b sE,h.nd,h.nk,hv,h.ne,h.np⟩
def XJ (A:RC):Sp:=λvs H Q ο=>∃(z:Hz) (l f g:Int) (tks:List Tk) (bk:Kvs),vs=[.ref z.p]/\WD A H z l f g tks bk/\tks.length < 1000/\
 ∀(k:Nat) (p:Addr) (H':Hp),UH (zD (KD tks)) k->WD A H' z l f g (tks++[⟨k,p,[]⟩]) bk->H p=none->Kd z.td H H'->Q (.int k) H'
theorem aU (T:fD K mg A):AC P w K mg base A.Ad "new_task" 3 ["self"] [] (XJ A):=by
 have Ba:=@WT P w K mg base A T;have Bf:=@M7 P w K mg base A T;refine T.Eg.have y6 (λvs H Q E z=>?_) ?_
 ·obtain⟨z,l,f,g,tks,bk,rfl,_⟩:=z;rfl
 ·intro f cdv A' outer s H vs Q E hr z;obtain⟨z,l,f',g,tks,bk,rfl,hS,hl,q⟩:=z;obtain⟨dx,h1⟩:=hS.me;have hlen:(KD tks).length=tks.length:=by unfold KD;rw[cA]
  refine⟨_,(CC (iD (i:=1) y6.nd rfl (Or.inl rfl) (DD Ba (hr.mono (by decide)) GC (iC (cD (eC 0) rfl) rC)))
   (CC (QF (dD hr) (cD (eC 0) rfl) (eC 1) (Q4 Bf (hr.mono (by decide)) GC) rfl)
   (FC (uD (eC 1))))),?_⟩
  unfold sp_least_free QT ND;rfl';simp only[h1];rfl';refine⟨T.Ag,T.An,_,pI,z.td,rfl,_,hS.t,λk hk x ex hx hex hne a2 ha2=>?_⟩;have nax:a2≠x:=λz=>by rw[z,IC] at ha2;cases ha2
  rw[vC nax] at ha2;have nad:a2≠ex:=λz=>by rw[z,IC] at ha2;cases ha2
  rw[vC nad] at ha2;have s1:uC H (jC (jC (jC (jC H ex (.own x)) x (.ins A.Aa ex [])) a2 (.lst [])) x (.ins A.Aa ex (IG a2))):=λc o h=>by
   rw[vC (bD h hx),vC (bD h ha2),vC (bD h hx),vC (bD h hex)];exact h
  have hx3:jC (jC (jC (jC H ex (.own x)) x (.ins A.Aa ex [])) a2 (.lst [])) x (.ins A.Aa ex (IG a2)) x=some (.ins A.Aa ex (IG a2)):=IC;have ha3:jC (jC (jC (jC H ex (.own x)) x (.ins A.Aa ex [])) a2 (.lst [])) x (.ins A.Aa ex (IG a2)) a2=some (.lst []):=by rw[vC nax,IC]
  generalize jC (jC (jC (jC H ex (.own x)) x (.ins A.Aa ex [])) a2 (.lst [])) x (.ins A.Aa ex (IG a2))=H3 at *;have hz:=PySem.sizeLine_eq;refine⟨_,dx,_,s1 _ _ h1,T.Ag,T.An,_,pI,z.td,rfl,_,.inl ⟨_,Sum.inl (k:Int),s1 _ _ hS.t,rfl,⋯,rfl⟩,?_⟩;have e:JC (KD tks) (Sum.inl (k:Int)) (.ref x)=KD (tks++[⟨k,x,[]⟩]):=by
   rw[HL hk.1];unfold KD;rw[gA];rfl
  rw[e];exact q k x _ hk (hS.more s1 hx ⟨a2,⟨ex,[],hx3,ha3,.nil⟩,⟨.nil,(λr hr=>by simp at hr)⟩,by show (0:Nat)<=10000;decide⟩ hk.1) hx ((Kd.of s1).trans sE)
inductive YJ (A:RC) (vs:List V) (H:Hp) (Q:VK) (E:XK):Prop where
 |mk (z:Hz) (l f g:Int) (tks:List Tk) (bk:Kvs) (n:Int) (_:vs=[.ref z.p,.int n]) (_:WD A H z l f g tks bk) (_:bk.length < 1000) (_:(((1<=n/\n<=64)/\∀(k:Nat) (H':Hp),UH (zD bk) k->WD A H' z l f g tks (bk++[(Sum.inl (k:Int),.int n)])->Kd z.bd H H'->Q (.int k) H')\/(¬(1<=n/\n<=64)/\E (.ref A.Av) none H))):YJ A vs H Q E
def AO (A:RC):Sp:=YJ A
theorem bU (T:fD K mg A):AC P w K mg base A.Ad "new_bank" 4 ["self","many"] [] (AO A):=by
 have Ba:=@WT P w K mg base A T;have Am:=@wL P w K mg base A T;refine T.Eh.have M6 (λvs H Q E z=>?_) ?_
 ·obtain⟨z,l,f,g,tks,bk,n,rfl,_⟩:=z;rfl
 ·intro f cdv A' outer s H vs Q E hr z;obtain⟨z,l,f',g,tks,bk,n,rfl,hS,hl,q⟩:=z;obtain⟨dx,h1⟩:=hS.me;refine⟨_,(CC (hE (iH (XG (DD Am (hr.mono (by decide)) GC (iC (eC 1) (iC yC (iC (QN rfl T.Fq) rC)))))) (FC (QG OG rfl T.D8 (iC LG rC))) kE)
   (CC (iD (i:=2) M6.nd rfl (Or.inl rfl) (DD Ba (hr.mono (by decide)) GC (iC (cD (eC 0) rfl) rC)))
   (CC (QF (dD hr) (cD (eC 0) rfl) (eC 2) (eC 1) rfl)
   (FC (uD (eC 2)))))),?_⟩
  unfold sp_least_free sp_is_within ND;rfl';simp only[h1];rfl';have hz:=PySem.sizeLine_eq;rw[FH];rcases q with ⟨⟨h2,h3⟩,q⟩|⟨h,q⟩
  ·rw[nA h2,nA h3];refine wD ⟨T.Ag,T.A0,_,tQ,z.bd,rfl,bk,hS.b,λk hk=>⟨T.Ag,T.A0,_,tQ,z.bd,rfl,_,.inl ⟨bk,Sum.inl (k:Int),hS.b,rfl,⋯,rfl⟩,?_⟩⟩;rw[HL hk.1];refine q k _ hk (hS.bank λkv hkv=>?_) sE;rcases dA.mp hkv with q|q
   ·exact hS.vb kv q
   ·rw[aA.mp q];exact⟨n,rfl⟩
  ·have e:(decide (1<=n)&&decide (n<=64))=false:=by
    rw[Bool.eq_false_iff];intro z;simp only[MA,SA] at z;exact h z
   rw[e];exact xD q
def ZJ (rs:List Rn) (x m r:Int) (t:Option (Int×Int)):List Rn:=AL rs x m [⟨x,m,r,t⟩]
def bV:Option Int->V
 |none=>.non
 |some b=>.int b
def yF (b:Option Int) (st:Int):Option (Int×Int):=b.map λb=>(b,st)
inductive W7 (A:RC) (vs:List V) (H:Hp) (Q:VK) (E:XK):Prop where
 |mk (z:Hz) (l f g:Int) (tks:List Tk) (bk:Kvs) (n x m r st:Int) (b:Option Int) (_:vs=[.ref z.p,.int n,.int x,.int m,.int r,bV b,.int st]) (_:WD A H z l f g tks bk) (_:((Sum.inl n∉zD (KD tks)/\E (.ref A.At) none H)\/(Sum.inl n∈zD (KD tks)/\yE x m (pw (l * f))=false/\E (.ref A.Ar) none H)\/(Sum.inl n∈zD (KD tks)/\yE x m (pw (l * f))=true/\((¬(0<=r/\r<=3)/\E (.ref A.As) none H)\/((0<=r/\r<=3)/\((∃b',b=some b'/\((Sum.inl b'∉zD bk/\E (.ref A.A4) none H)\/∃i:Int,gC bk (Sum.inl b')=some (.int i)/\¬(0<=st/\st<=i - m)/\E (.ref A.Av) none H))\/((∀b',b=some b'->∃i:Int,gC bk (Sum.inl b')=some (.int i)/\0<=st/\st<=i - m)/\∃t∈tks,t.n=n/\((lG t.rs x m≠[]/\∀H',uC H H'->E (.ref A.Bb) none H')\/(lG t.rs x m=[]/\qD (ZJ t.rs x m r (yF b st))/\(ZJ t.rs x m r (yF b st)).length<=10000/\∀H',WD A H' z l f g (gF n (ZJ t.rs x m r (yF b st)) tks) bk->Bu t.p H H'->Q .non H'))))))))):W7 A vs H Q E
def cU (A:RC):Sp:=W7 A
theorem KL (T:fD K mg A):eF P w K mg base "House.lay" OH ["self","task","first","many","rights","bank","start","tie"] 8 (cU A):=by
 have Ch:=@ZT P w K mg base A T;have Bn:=@wO P w K mg base A T;have Bs:=@zO P w K mg base A T;have Fm:=@bh P w K mg base A T;intro f cdv A' outer s H vs Q E hr z;obtain⟨z,l,f',g,tks,bk,n,x,m,r,st,b,rfl,hS,q⟩:=z;obtain⟨dx,h1⟩:=hS.me;refine⟨_,(CC (GE (HD (eC 0) T.Ag Ch (hr.mono (by decide)) GC (iC (eC 1) (iC (eC 2) (iC (eC 3) rC)))))
   (CC (GE (DD Bn (hr.mono (by decide)) GC (iC (eC 4) rC)))
   (CC (iD (i:=7) yS.nd rfl (Or.inl rfl) ZF)
   (LI (hE (pE Y2 (eC 5) ZF (wC _)) (CC (GE (HD (eC 0) T.Ag Bs (hr.mono (by decide)) GC (iC (eC 5) (iC (eC 6) (iC (eC 3) rC)))))
   (FC (iD (i:=7) yS.nd rfl (Or.inl rfl) (NG (iC (eC 5) (iC (eC 6) rC)))))) kE)
   (FC (GE (HD (VD (dD hr) (cD (eC 0) rfl) (eC 1) (λο ο=>rfl)) T.Af Fm (hr.mono (by decide)) GC (iC (eC 2) (iC (eC 3) (iC (eC 4) (iC (eC 7) rC))))))))))),?_⟩
 unfold WJ RT V7 sQ pD;rfl';simp only[h1];rfl';refine⟨DF ∅,z,rfl,l,f',g,tks,bk,hS,?_⟩;rcases q with ⟨h,q⟩|⟨h,hf,q⟩|⟨h,hf,q⟩
 ·exact .inl ⟨h,q⟩
 ·exact .inr (.inl ⟨h,hf,q⟩)
 refine .inr (.inr ⟨h,hf,?_⟩);rcases q with ⟨hb,q⟩|⟨hb,q⟩
 ·rw[fA (by rw[FH];simpa using hb)];exact q
 rw[iA (by rw[FH,nA hb.1,nA hb.2];rfl)];rcases q with ⟨b',rfl,q⟩|⟨hall,t,ht,hn,q⟩
 ·refine⟨λο ο=>False,?_,λο ο z=>z.elim⟩;unfold bV;rfl';simp only[h1];rfl';rw[HA (λz=>nomatch z)];refine xD ⟨DF ∅,z,rfl,l,f',g,tks,bk,hS,?_⟩;rcases q with ⟨h3,q⟩|⟨i,hi,h3,q⟩
  ·exact .inl ⟨h3,q⟩
  ·exact .inr ⟨i,hi,.inl ⟨h3,q⟩⟩
 refine⟨λσ H'=>∃tv,σ=[some (.ref z.p),some (.int n),some (.int x),some (.int m),some (.int r),some (bV b),some (.int st),some tv]/\uC H H'/\rD H' tv (yF b st),?_,λσ' H'=>?_⟩
 ·cases b with
  |none=>
   unfold bV;rfl';exact wD ⟨LD,rfl⟩
  |some b'=>
   unfold bV;rfl';simp only[h1];rfl';rw[HA (λz=>nomatch z)];obtain⟨i,hi,h3,h4⟩:=hall b' rfl;exact xD ⟨DF ∅,z,rfl,l,f',g,tks,bk,hS,.inr ⟨i,hi,.inr ⟨h3,h4,λp hp=>⟨bE LD hp,p,rfl,IC⟩⟩⟩⟩
 rintro⟨tv,rfl,s1,hT⟩;have hS1:=hS.same s1;rfl';obtain⟨t',ht',hn',hv⟩:=yO h hS.nk;obtain rfl:t'=t:=UJ hS.nk ht' ht (hn'.trans hn.symm);obtain⟨a,hA,ho,hl⟩:=hS1.st t' ht;obtain⟨dx2,vs2,e1,e2,e3⟩:=id hA;refine⟨_,dx,_,s1 _ _ h1,T.Ag,T.An,_,pI,z.td,rfl,_,.inl ⟨_,Sum.inl n,.inl hS1.t,rfl,hv.symm⟩,t'.p,rfl,dx2,_,e1,cG ∅,?_⟩;refine⟨t'.p,rfl,a,t'.rs,hA,ho,⋯,yF b st,hT,?_⟩;rw[iA hb];rcases q with ⟨hp,q⟩|⟨hp,ho2,hl2,q⟩
 ·rw[fA hp];exact λH2 s2=>q _ (s1.trans s2)
 ·rw[iA hp];exact λa' H2 hS2 hB=>q H2 (by rw[<-hn];exact hS1.set ht hS2 ho2 hl2 hB) (λc o hc hne=>hB c o (s1 c o hc) hne)
theorem LL {A:RC}:∀vs H Q E,cU A vs H Q E->vs.length=7:=λvs H Q E z=>by
 obtain⟨z,l,f,g,tks,bk,n,x,m,r,st,b,rfl,_⟩:=z;rfl
theorem ML (T:fD K mg A):AC P w K mg base A.Ad "lay" 9 ["self","task","first","many","rights","bank","start"] [] (cU A):=T.Ix.have yS LL (KL T)
theorem SI {tks:List Tk} {t:Tk} (ht:t∈tks):(Sum.inl t.n:Key)∈zD (KD tks):=by
 unfold zD KD;rw[lA];exact bA.mpr ⟨t,ht,rfl⟩
def X7 (A:RC):Sp:=λvs H Q E=>∃(z:Hz) (l f g:Int) (tks:List Tk) (bk:Kvs) (n x:Int),vs=[.ref z.p,.int n,.int x]/\WD A H z l f g tks bk/\
 ((Sum.inl n∉zD (KD tks)/\E (.ref A.At) none H)\/∃t∈tks,t.n=n/\∀v H',uC H H'->rD H' v ((pm t.rs x).bind (·.2))->Q v H')
theorem BO (T:fD K mg A):AC P w K mg base A.Ad "tie_at" 7 ["self","task","page"] [] (X7 A):=by
 have Ak:=@VH P w K mg base A T;have Dw:=@uO P w K mg base A T;refine T.Fu.have Vf (λvs H Q E z=>?_) ?_
 ·obtain⟨z,l,f,g,tks,bk,n,x,rfl,_⟩:=z;rfl
 ·intro f cdv A' outer s H vs Q E hr z;obtain⟨z,l,f',g,tks,bk,n,x,rfl,hS,q⟩:=z;obtain⟨dx,h1⟩:=hS.me;refine⟨_,(CC (GE (HD (eC 0) T.Ag Ak (hr.mono (by decide)) GC (iC (eC 1) rC)))
   (FC (uD (HD (VD (dD hr) (cD (eC 0) rfl) (eC 1) (λο ο=>rfl)) T.Af Dw (hr.mono (by decide)) GC (iC (eC 2) rC))))),?_⟩
  unfold LM v7 pD;rfl';simp only[h1];rfl';refine⟨DF ∅,z,rfl,l,f',g,tks,bk,hS,?_⟩;rcases q with ⟨h,q⟩|⟨t,ht,hn,q⟩
  ·exact .inr ⟨h,q⟩
  subst hn;obtain⟨t',ht',hn',hv⟩:=yO (SI ht) hS.nk;obtain rfl:t'=t:=UJ hS.nk ht' ht hn';obtain⟨a,hA,ho,hl⟩:=hS.st t' ht;obtain⟨dx2,vs2,e1,e2,e3⟩:=id hA;exact .inl ⟨SI ht,T.Ag,T.An,_,pI,z.td,rfl,_,.inl ⟨_,Sum.inl t'.n,.inl hS.t,rfl,hv.symm⟩,t'.p,rfl,dx2,_,e1,cG ∅,t'.p,rfl,a,t'.rs,hA,ho,⋯,q⟩
def aK (A:RC):Sp:=λvs H Q E=>∃(z:Hz) (l f g:Int) (tks:List Tk) (bk:Kvs) (n:Int),vs=[.ref z.p,.int n]/\WD A H z l f g tks bk/\
 ((Sum.inl n∉zD (KD tks)/\E (.ref A.At) none H)\/∃t∈tks,t.n=n/\∀b us,H b=none->oC (jC H b (.lst us)) us t.rs->Q (.ref b) (jC H b (.lst us)))
theorem dU (T:fD K mg A):AC P w K mg base A.Ad "stretches_of" 2 ["self","task"] [] (aK A):=by
 have Ak:=@VH P w K mg base A T;have Ey:=@Yg P w K mg base A T;refine T.Cl.have Wf (λvs H Q E z=>?_) ?_
 ·obtain⟨z,l,f,g,tk,bk,n,rfl,_⟩:=z;rfl
 ·intro f cdv A' outer s H vs Q E hr z;obtain⟨z,l,f',g,tk,bk,n,rfl,hS,q⟩:=z;obtain⟨dx,h1⟩:=hS.me;refine⟨_,(CC (GE (HD (eC 0) T.Ag Ak (hr.mono (by decide)) GC (iC (eC 1) rC)))
   (FC (uD (mI (VD (dD hr) (cD (eC 0) rfl) (eC 1) (λο ο=>rfl)) T.Af Ey (hr.mono (by decide)) GC)))),?_⟩
  unfold LM pD t7;rfl';simp only[h1];rfl';refine⟨DF ∅,z,rfl,l,f',g,tk,bk,hS,?_⟩;rcases q with ⟨h,q⟩|⟨t,ht,hn,q⟩
  ·exact .inr ⟨h,q⟩
  subst hn;obtain⟨t',ht',hn',hv⟩:=yO (SI ht) hS.nk;obtain rfl:t'=t:=UJ hS.nk ht' ht hn';obtain⟨a,hA,ho,hl⟩:=hS.st t' ht;obtain⟨dx2,vs2,e1,e2,e3⟩:=id hA;exact .inl ⟨SI ht,T.Ag,T.An,_,pI,z.td,rfl,_,.inl ⟨_,Sum.inl t'.n,.inl hS.t,rfl,hv.symm⟩,t'.p,rfl,dx2,_,e1,cG ∅,t'.p,rfl,a,t'.rs,hA,q⟩
def eU (A : RC) : Sp := λvs H Q E => ∃ (z : Hz) (l f g : Int) (tks : List Tk) (bk : Kvs) (n a wn : Int), vs = [.ref z.p, .int n, .int a, .int wn] /\ WD A H z l f g tks bk /\ gd l f g /\
  ((Sum.inl n ∉ zD (KD tks) /\ E (.ref A.At) none H) \/ ∃ t ∈ tks, t.n = n /\ ((¬ (0 <= a /\ a < pw (l * f) * pw g) /\ E (.ref A.Ar) none H) \/ ((0 <= a /\ a < pw (l * f) * pw g) /\ ((pm t.rs (a / pw g) = none /\ ∀ H', uC H H' -> E (.ref A.Ax) none H') \/
    ∃ r ti, pm t.rs (a / pw g) = some (r, ti) /\ ((Builtin.bitAnd r wn ≠ wn /\ ∀ H', uC H H' -> E (.ref A.A9) none H') \/ (Builtin.bitAnd r wn = wn /\ ∀ p H', uC H H' -> H' p = some (.tup [.int (a / pw g), .int (a % pw g)]) -> Q (.ref p) H'))))))
theorem Y7 (T:fD K mg A):AC P w K mg base A.Ad "asked" 7 ["self","task","address","want"] [] (eU A):=by
 have Ak:=@VH P w K mg base A T;have Gf:=@yT P w K mg base A T;have Ci:=@sO P w K mg base A T;refine T.Gk.have AS (λvs H Q E z=>?_) ?_
 ·obtain⟨z,l,f,g,tk,bk,n,a,wn,rfl,_⟩:=z;rfl
 ·intro f cdv A' outer s H vs Q E hr z;obtain⟨z,l,f',g,tk,bk,n,a,wn,rfl,hS,hg,q⟩:=z;obtain⟨dx,h1⟩:=hS.me;obtain⟨dxs,h2⟩:=id hS.sh;refine⟨_,(CC (GE (HD (eC 0) T.Ag Ak (hr.mono (by decide)) GC (iC (eC 1) rC)))
   (CC (iD (i:=4) AS.nd rfl (Or.inl rfl) (HD (cD (eC 0) rfl) T.Au Gf (hr.mono (by decide)) GC (iC (eC 2) rC)))
   (CC (iD (i:=5) AS.nd rfl (Or.inl rfl) (HD (VD (dD hr) (cD (eC 0) rfl) (eC 1) (λο ο=>rfl)) T.Af Ci (hr.mono (by decide)) GC (iC (GD fE (eC 4) yC (λο ο=>rfl)) rC)))
   (CC (hE (pE fI (eC 5) ZF (wC _)) (FC (QG OG rfl T.I0 (iC LG rC))) kE)
   (CC (hE (pE SQ (BD HK (eC 5) (eC 3)) (eC 3) (wC _)) (FC (QG OG rfl T.Jx (iC LG rC))) kE)
   (FC (uD (eC 4)))))))),?_⟩
  unfold LM QJ u7 pD;rfl';simp only[h1];rfl';refine⟨DF ∅,z,rfl,l,f',g,tk,bk,hS,?_⟩;rcases q with ⟨h,q⟩|⟨t,ht,hn,q⟩
  ·exact .inr ⟨h,q⟩
  subst hn;obtain⟨t',ht',hn',hv⟩:=yO (SI ht) hS.nk;obtain rfl:t'=t:=UJ hS.nk ht' ht hn';refine .inl ⟨SI ht,T.Ag,T.Bc,_,XT,z.sh,rfl,dxs,_,h2,nI ∅,z.sh,rfl,l,f',g,hS.sh,hg,?_⟩;rcases q with ⟨c,q⟩|⟨c,q⟩
  ·rw[fA c];exact q
  rw[iA c];intro p hp;have s1:=bE (o:=.tup [V.int (a / pw g),V.int (a % pw g)]) (LD (H:=H)) hp;have hp1:jC H p (.tup [V.int (a / pw g),V.int (a % pw g)]) p=some (.tup [V.int (a / pw g),V.int (a % pw g)]):=IC;have hS1:=hS.same s1;generalize jC H p (.tup [V.int (a / pw g),V.int (a % pw g)])=H1 at *;obtain⟨b,hA,ho,hl⟩:=hS1.st t' ht;obtain⟨dx2,vs2,e1,e2,e3⟩:=id hA;refine⟨_,dx,_,s1 _ _ h1,T.Ag,T.An,_,pI,z.td,rfl,_,.inl ⟨_,Sum.inl t'.n,.inl hS1.t,rfl,hv.symm⟩,t'.p,rfl,dx2,_,e1,cG ∅,_,ZC.of hp1,.int (a / pw g),rfl,t'.p,rfl,b,t'.rs,a / pw g,rfl,hA,ho,⋯,λH2 s2=>?_⟩;rcases q with ⟨e,q⟩|⟨r,ti,e,q⟩
  ·rw[e,iA (show oR none=V.non from rfl)];exact q _ (s1.trans s2)
  ·rw[e,fA (show ¬oR (some (r,ti))=V.non from λz=>nomatch z)];show ∃i,V.int r=V.int i/\_;refine⟨r,rfl,?_⟩;rcases q with ⟨e,q⟩|⟨e,q⟩
   ·rw[iA (by simpa using e)];exact q _ (s1.trans s2)
   ·rw[fA (by simpa using e)];exact q _ _ (s1.trans s2) (s2 _ _ hp1)
theorem WD.moreR {A:RC} {H H':Hp} {z:Hz} {l f g:Int} {tks:List Tk} {bk:Kvs} {k:Int} {p:Addr} {rs:List Rn} (h:WD A H z l f g tks bk) (s:uC H H') (hn:H p=none) (hp:fF A.Aa H' ⟨k,p,rs⟩) (hk:Sum.inl k∉zD (KD tks)):
  WD A (jC H' z.td (.dK (KD (tks++[⟨k,p,rs⟩])))) z l f g (tks++[⟨k,p,rs⟩]) bk:=by
 have hs:=h.same s;obtain⟨dx,e⟩:=hs.me;obtain⟨dxs,es⟩:=id hs.sh;have np:∀t∈tks,t.p≠p:=λt ht z=>by
  obtain⟨a,⟨dx,vs,e1,_⟩,_⟩:=h.st t ht;rw[z,hn] at e1;cases e1
 refine⟨⟨dx,?_⟩,⟨dxs,?_⟩,IC,?_,λt ht=>?_,?_,?_,h.vb,h.ne,λt ht=>?_⟩
 ·rw[vC (LC e hs.t (λz=>nomatch z))];exact e
 ·rw[vC (LC es hs.t (λz=>nomatch z))];exact es
 ·rw[vC h.ne.symm];exact hs.b
 ·rcases dA.mp ht with q|q
  ·exact (hs.st t q).kd hs.t sE
  ·rw[aA.mp q];exact hp.kd hs.t sE
 ·rw[gA,yA,BB,zA];refine⟨h.nd,by simp,λa ha b hb=>?_⟩;obtain⟨t,ht,rfl⟩:=bA.mp ha;rw[aA.mp hb];exact np t ht
 ·rw[gA,yA,BB,zA];refine⟨h.nk,by simp,λa ha b hb z=>?_⟩;obtain⟨t,ht,rfl⟩:=bA.mp ha;rw[aA.mp hb] at z;refine hk ?_;show _∈(KD tks).map (·.1);unfold KD;rw[lA];exact bA.mpr ⟨t,ht,by show (Sum.inl t.n:Key)=_;rw[z]⟩
 ·rcases dA.mp ht with q|q
  ·exact h.np t q
  ·rw[aA.mp q];obtain⟨dx0,e0⟩:=h.me;obtain⟨dx1,e1⟩:=id h.sh;exact⟨(λz=>by rw[<-z,hn] at e0;cases e0),(λz=>by rw[<-z,hn] at e1;cases e1)⟩
def Z7 (A:RC):Sp:=λvs H Q E=>∃(z:Hz) (l f g:Int) (tks:List Tk) (bk:Kvs) (n:Int),vs=[.ref z.p,.int n]/\WD A H z l f g tks bk/\tks.length < 1000/\
 ((Sum.inl n∉zD (KD tks)/\E (.ref A.At) none H)\/∃t∈tks,t.n=n/\∀(k:Nat) (p:Addr) (H':Hp),UH (zD (KD tks)) k->WD A H' z l f g (tks++[⟨k,p,t.rs⟩]) bk->H p=none->Kd z.td H H'->Q (.int k) H')
theorem NL (T:fD K mg A):AC P w K mg base A.Ad "fork" 4 ["self","task"] [] (Z7 A):=by
 have Ak:=@VH P w K mg base A T;have Ba:=@WT P w K mg base A T;have Dx:=@dh P w K mg base A T;refine T.Hc.have V6 (λvs H Q E z=>?_) ?_
 ·obtain⟨z,l,f,g,tks,bk,n,rfl,_⟩:=z;rfl
 ·intro f cdv A' outer s H vs Q E hr z;obtain⟨z,l,f',g,tks,bk,n,rfl,hS,hl,q⟩:=z;obtain⟨dx,h1⟩:=hS.me;have hlen:(KD tks).length=tks.length:=by unfold KD;rw[cA]
  refine⟨_,(CC (GE (HD (eC 0) T.Ag Ak (hr.mono (by decide)) GC (iC (eC 1) rC)))
   (CC (iD (i:=2) V6.nd rfl (Or.inl rfl) (DD Ba (hr.mono (by decide)) GC (iC (cD (eC 0) rfl) rC)))
   (CC (QF (dD hr) (cD (eC 0) rfl) (eC 2) (mI (VD (dD hr) (cD (eC 0) rfl) (eC 1) (λο ο=>rfl)) T.Af Dx (hr.mono (by decide)) GC) rfl)
   (FC (uD (eC 2)))))),?_⟩
  unfold sp_least_free O7 LM ND pD;rfl';simp only[h1];rfl';refine⟨DF ∅,z,rfl,l,f',g,tks,bk,hS,?_⟩;rcases q with ⟨h,q⟩|⟨t,ht,hn,q⟩
  ·exact .inr ⟨h,q⟩
  subst hn;obtain⟨t',ht',hn',hv⟩:=yO (SI ht) hS.nk;obtain rfl:t'=t:=UJ hS.nk ht' ht hn';obtain⟨a,hA,ho,hll⟩:=hS.st t' ht;obtain⟨dx2,vs2,e1,e2,e3⟩:=id hA;refine .inl ⟨SI ht,T.Ag,T.An,_,pI,z.td,rfl,_,hS.t,λk hk=>⟨T.Ag,T.An,_,pI,z.td,rfl,_,.inl ⟨_,Sum.inl t'.n,.inl hS.t,rfl,hv.symm⟩,t'.p,rfl,dx2,_,e1,cG ∅,t'.p,rfl,a,t'.rs,hA,λp' a' H1 s1 hp' hA'=>?_⟩⟩;have hz:=PySem.sizeLine_eq;refine⟨_,dx,_,s1 _ _ h1,T.Ag,T.An,_,pI,z.td,rfl,_,.inl ⟨_,Sum.inl (k:Int),s1 _ _ hS.t,rfl,⋯,rfl⟩,?_⟩;have e:JC (KD tks) (Sum.inl (k:Int)) (.ref p')=KD (tks++[⟨k,p',t'.rs⟩]):=by
   rw[HL hk.1];unfold KD;rw[gA];rfl
  rw[e];exact q k p' _ hk (hS.moreR s1 hp' ⟨a',hA',ho,hll⟩ hk.1) hp' ((Kd.of s1).trans sE)
def tF (sh:Addr) (most:Int) (ho sd hd:Addr) (made:Int) (pd bd:Addr):List (Str×V):=nC "banked" (.ref bd) (nC "private" (.ref pd) (nC "made" (.int made) (nC "havers" (.ref hd) (nC "sheets" (.ref sd) (nC "house" (.ref ho) (nC "most" (.int most) (nC "shape" (.ref sh) [])))))))
theorem kh {sh ho sd hd pd bd:Addr} {most made:Int}:(tF sh most ho sd hd made pd bd).lookup ("shape":Str)=some (.ref sh):=by rfl
theorem lh {sh ho sd hd pd bd:Addr} {most made:Int}:(tF sh most ho sd hd made pd bd).lookup ("most":Str)=some (.int most):=by rfl
theorem bK {sh ho sd hd pd bd:Addr} {most made:Int}:(tF sh most ho sd hd made pd bd).lookup ("house":Str)=some (.ref ho):=by rfl
theorem WH {sh ho sd hd pd bd:Addr} {most made:Int}:(tF sh most ho sd hd made pd bd).lookup ("sheets":Str)=some (.ref sd):=by rfl
theorem XH {sh ho sd hd pd bd:Addr} {most made:Int}:(tF sh most ho sd hd made pd bd).lookup ("havers":Str)=some (.ref hd):=by rfl
theorem uQ {sh ho sd hd pd bd:Addr} {most made:Int}:(tF sh most ho sd hd made pd bd).lookup ("made":Str)=some (.int made):=by rfl
theorem UI {sh ho sd hd pd bd:Addr} {most made:Int}:(tF sh most ho sd hd made pd bd).lookup ("private":Str)=some (.ref pd):=by rfl
theorem fU {sh ho sd hd pd bd:Addr} {most made:Int}:(tF sh most ho sd hd made pd bd).lookup ("banked":Str)=some (.ref bd):=by rfl
theorem mh {sh ho sd hd pd bd:Addr} {most made:Int}:(tF sh most ho sd hd made pd bd).length < 1000:=by show 8 < 1000;decide
set_option genInjectivity false in
structure Ro where
 p:Addr
 sh:Addr
 ho:Addr
 sd:Addr
 hd:Addr
 pd:Addr
 bd:Addr
 most:Int
set_option genInjectivity false in
structure Sh where
 n:Int
 a:Addr
 xs:List Int
 h:Int
def tE (S:List Sh):Kvs:=S.map λs=>((Sum.inl s.n:Key),V.ref s.a)
def MD (S:List Sh):Kvs:=S.map λs=>((Sum.inl s.n:Key),V.int s.h)
structure ID (A:RC) (H:Hp) (r:Ro) (made:Int) (S:List Sh):Prop where
 me:∃dx,H r.p=some (.ins A.Ab dx (tF r.sh r.most r.ho r.sd r.hd made r.pd r.bd))
 s:H r.sd=some (.dK (tE S))
 h:H r.hd=some (.dK (MD S))
 x:∀s∈S,H s.a=some (.lst (s.xs.map V.int))
 nd:(S.map Sh.a).Nodup
 nn:(S.map Sh.n).Nodup
 b:∀s∈S,s.n < made
 ne:r.sd≠r.hd
theorem ID.same {H H':Hp} {r:Ro} {made:Int} {S:List Sh} (h:ID A H r made S) (s:uC H H'):ID A H' r made S:=⟨let ⟨dx,e⟩:=h.me;⟨dx,s _ _ e⟩,s _ _ h.s,s _ _ h.h,λt ht=>s _ _ (h.x t ht),h.nd,h.nn,h.b,h.ne⟩
theorem QE {sh ho sd hd pd bd:Addr} {most made:Int} {m:Str} (h:¬m∈(["shape","most","house","sheets","havers","made","private","banked"]:List Str)):(tF sh most ho sd hd made pd bd).lookup m=none:=by
 simp only[vA,fB,or_false,not_or] at h;obtain⟨h1,h2,h3,h4,h5,h6,h7,h8⟩:=h;unfold tF;simp only[EM,h1,h2,h3,h4,h5,h6,h7,h8,bC]
 rfl
def Rk (r:Ro) (H H':Hp):Prop:=∀c o,H c=some o->c≠r.p->c≠r.sd->c≠r.hd->H' c=some o
theorem nh {A:RC} {H:Hp} {r:Ro} {made:Int} {S:List Sh} (h:ID A H r made S):(Sum.inl made:Key)∉zD (tE S)/\(Sum.inl made:Key)∉zD (MD S):=by
 have main:∀s∈S,s.n≠made:=λs hs e=>by have:=h.b s hs;omega
 constructor
 ·intro z;obtain⟨p,hp,e⟩:=bA.mp z;obtain⟨s,hs,rfl⟩:=bA.mp hp;exact main s hs (YA e)
 ·intro z;obtain⟨p,hp,e⟩:=bA.mp z;obtain⟨s,hs,rfl⟩:=bA.mp hp;exact main s hs (YA e)
def a8 (A:RC):Sp:=λvs H Q E=>∃(r:Ro) (made:Int) (S:List Sh) (b:Addr) (ys:List Int),vs=[.ref r.p,.ref b]/\ID A H r made S/\S.length<=100000/\H b=some (.lst (ys.map V.int))/\
 (((S.length:Int)>=r.most/\E (.ref A.Aq) none H)\/((S.length:Int) < r.most/\∀l H',ID A H' r (made+1) (S++[⟨made,l,ys,1⟩])->H l=none->Rk r H H'->Q (.int made) H'))
theorem cK (T:fD K mg A):AC P w K mg base A.Ab "new_sheet" 1 ["self","boxes"] [] (a8 A):=by
 refine T.D4.have T6 (λvs H Q E z=>?_) ?_
 ·obtain⟨r,made,S,b,ys,rfl,_⟩:=z;rfl
 ·intro f cdv A' outer s H vs Q E hr z;obtain⟨r,made,S,b,ys,rfl,hS,hl,hb,q⟩:=z;obtain⟨dx,h1⟩:=hS.me;refine⟨_,(CC (hE (pE lJ (rF PN rfl T.A7 PySem.boot_len (iC (cD (eC 0) rfl) rC)) (cD (eC 0) rfl) (wC _)) (FC (QG OG rfl T.Ko (iC LG rC))) kE)
   (CC (iD (i:=2) T6.nd rfl (Or.inl rfl) (cD (eC 0) rfl))
   (CC (xF (eC 0) (BD aG (eC 2) yC) rfl)
   (CC (QF (dD hr) (cD (eC 0) rfl) (eC 2) (iI GN rfl T.B7 DB (iC (eC 1) rC)) rfl)
   (CC (QF (dD hr) (cD (eC 0) rfl) (eC 2) yC rfl)
   (FC (uD (eC 2)))))))),?_⟩
  unfold ND;rfl';simp only[h1];rfl';have lenS:(tE S).length=S.length:=by unfold tE;rw[cA]
  have lenH:(MD S).length=S.length:=by unfold MD;rw[cA]
  have hz:=PySem.sizeLine_eq;refine⟨T.Ac,T.Ai,_,WH,r.sd,rfl,_,hS.s,T.Ac,T.Cr,_,lh,r.most,rfl,?_⟩;rw[lenS];rcases q with ⟨h,q⟩|⟨h,q⟩
  ·rw[iA h];exact q
  rw[fA ⋯];have ep:nC "made" (.int (made+1)) (tF r.sh r.most r.ho r.sd r.hd made r.pd r.bd)=tF r.sh r.most r.ho r.sd r.hd (made+1) r.pd r.bd:=rfl;refine⟨T.Ac,T.Bq,_,uQ,made,rfl,T.Ac,T.Bq,mh,?_⟩;rw[ep];have hp1:jC H r.p (.ins A.Ab dx (tF r.sh r.most r.ho r.sd r.hd (made+1) r.pd r.bd)) r.p=some (.ins A.Ab dx (tF r.sh r.most r.ho r.sd r.hd (made+1) r.pd r.bd)):=IC;have k1:Kd r.p H (jC H r.p (.ins A.Ab dx (tF r.sh r.most r.ho r.sd r.hd (made+1) r.pd r.bd))):=sE;have f1:∀l,jC H r.p (.ins A.Ab dx (tF r.sh r.most r.ho r.sd r.hd (made+1) r.pd r.bd)) l=none->H l=none:=λl hl=>by
   by_cases e:l=r.p
   ·rw[e,IC] at hl;cases hl
   ·rw[vC e] at hl;exact hl
  generalize jC H r.p (.ins A.Ab dx (tF r.sh r.most r.ho r.sd r.hd (made+1) r.pd r.bd))=H1 at *;have hb1:=k1 _ _ hb (LC hb h1 (λz=>nomatch z));have hs1:=k1 _ _ hS.s (LC hS.s h1 (λz=>nomatch z));have hh1:=k1 _ _ hS.h (LC hS.h h1 (λz=>nomatch z));refine⟨_,.inl (QC.of hb1),λl hl=>?_⟩;have u:=bE (o:=.lst (ys.map V.int)) (LD (H:=H1)) hl;have hl2:jC H1 l (.lst (ys.map V.int)) l=some (.lst (ys.map V.int)):=IC;generalize jC H1 l (.lst (ys.map V.int))=H2 at *;obtain⟨g1,g2⟩:=nh hS;refine⟨_,dx,_,u _ _ hp1,T.Ac,T.Ai,_,WH,r.sd,rfl,_,.inl ⟨tE S,Sum.inl made,u _ _ hs1,rfl,⋯,rfl⟩,?_⟩;rw[HL g1];have hp3:jC H2 r.sd (.dK (tE S++[(Sum.inl made,V.ref l)])) r.p=some (.ins A.Ab dx (tF r.sh r.most r.ho r.sd r.hd (made+1) r.pd r.bd)):=by
   rw[vC (LC (u _ _ hp1) (u _ _ hs1) (λz=>nomatch z))];exact u _ _ hp1
  have hh3:jC H2 r.sd (.dK (tE S++[(Sum.inl made,V.ref l)])) r.hd=some (.dK (MD S)):=by rw[vC hS.ne.symm];exact u _ _ hh1
  refine⟨_,dx,_,hp3,T.Ac,T.Aj,_,XH,r.hd,rfl,_,.inl ⟨MD S,Sum.inl made,hh3,rfl,⋯,rfl⟩,?_⟩;rw[HL g2];have nl1:l≠r.sd:=λe=>by rw[e,hs1] at hl;cases hl
  have nl2:l≠r.hd:=λe=>by rw[e,hh1] at hl;cases hl
  have eS:tE S++[(Sum.inl made,V.ref l)]=tE (S++[⟨made,l,ys,1⟩]):=by unfold tE;rw[gA];rfl
  have eH:MD S++[(Sum.inl made,V.int 1)]=MD (S++[⟨made,l,ys,1⟩]):=by unfold MD;rw[gA];rfl
  have hp4:r.p≠r.hd:=LC hp3 hh3 (λz=>nomatch z);have hx1:∀s∈S,H2 s.a=some (.lst (s.xs.map V.int)):=λs hs=>u _ _ (k1 _ _ (hS.x s hs) (LC (hS.x s hs) h1 (λz=>nomatch z)));have hl0:=f1 l hl;refine q l _ ⟨⟨dx,by rw[vC hp4];exact hp3⟩,by rw[vC hS.ne,IC,eS],by rw[IC,eH],λs hs=>?_,?_,?_,λs hs=>?_,hS.ne⟩ hl0 (λc o h n1 n2 n3=>by rw[vC n3,vC n2];exact u _ _ (k1 _ _ h n1))
  ·rcases dA.mp hs with h|h
   ·have:=hx1 s h;rw[vC (LC this (u _ _ hh1) (λz=>nomatch z)),vC (LC this (u _ _ hs1) (λz=>nomatch z))];exact this
   ·rw[aA.mp h];show jC _ _ _ l=_;rw[vC nl2,vC nl1];exact hl2
  ·rw[gA,zA];refine⟨hS.nd,by simp,λx hx y hy=>?_⟩;obtain⟨s,hs,rfl⟩:=bA.mp hx;rw[aA.mp hy];exact bD (hS.x s hs) hl0
  ·rw[gA,zA];refine⟨hS.nn,by simp,λx hx y hy=>?_⟩;obtain⟨s,hs,rfl⟩:=bA.mp hx;rw[aA.mp hy];show s.n≠made;have:=hS.b s hs;omega
  ·rcases dA.mp hs with h|h
   ·have:=hS.b s h;omega
   ·rw[aA.mp h];show made < made+1;omega
def VE (n:Int) (S:List Sh):List Sh:=S.filter λs=>decide (s.n≠n)
def YC (n:Int) (S:List Sh):List Sh:=S.map λs=>if s.n=n then {s with h:=s.h - 1} else s
def oE (n:Int) (h:Int) (S:List Sh):List Sh:=if h=1 then VE n S else YC n S
theorem cE {α β:Type} {f:α->β}:∀{xs:List α} {a b:α},(xs.map f).Nodup->a∈xs->b∈xs->f a=f b->a=b
 |[],_,_,_,h,_,_=>by simp at h
 |x::xs,a,b,nd,ha,hb,e=>by
  rw[yA,OA] at nd;rcases vA.mp ha with e1|h1<;>rcases vA.mp hb with e2|h2
  ·rw[e1,e2]
  ·exact absurd (bA.mpr ⟨b,h2,by rw[<-e,e1]⟩) nd.1
  ·exact absurd (bA.mpr ⟨a,h1,by rw[e,e2]⟩) nd.1
  ·exact cE nd.2 h1 h2 e
theorem eK {S:List Sh} {s:Sh} (nn:(S.map Sh.n).Nodup) (hs:s∈S):gC (MD S) (Sum.inl s.n)=some (.int s.h):=by
 induction S with
 |nil=>simp at hs
 |cons u r ih=>
  rw[yA,OA] at nn;show gC ((Sum.inl u.n,V.int u.h)::MD r) (Sum.inl s.n)=_;rcases vA.mp hs with rfl|h
  ·exact pG rfl
  ·rw[fG (λz=>nn.1 (by rw[show u.n=s.n from YA z];exact bA.mpr ⟨s,h,rfl⟩))];exact ih nn.2 h
theorem MM {S:List Sh} {s:Sh} (nn:(S.map Sh.n).Nodup) (hs:s∈S):gC (tE S) (Sum.inl s.n)=some (.ref s.a):=by
 induction S with
 |nil=>simp at hs
 |cons u r ih=>
  rw[yA,OA] at nn;show gC ((Sum.inl u.n,V.ref u.a)::tE r) (Sum.inl s.n)=_;rcases vA.mp hs with rfl|h
  ·exact pG rfl
  ·rw[fG (λz=>nn.1 (by rw[show u.n=s.n from YA z];exact bA.mpr ⟨s,h,rfl⟩))];exact ih nn.2 h
theorem oh {S:List Sh} {s:Sh} (nn:(S.map Sh.n).Nodup) (hs:s∈S):JC (MD S) (Sum.inl s.n) (.int (s.h - 1))=MD (YC s.n S):=by
 unfold JC;rw[lI,eK nn hs,iA (show (some (V.int s.h)).isSome=true from rfl)];unfold MD YC;rw[lA,lA];refine DA λu hu=>?_;show (if (Sum.inl u.n:Key)=Sum.inl s.n then ((Sum.inl u.n:Key),V.int (s.h - 1)) else (Sum.inl u.n,V.int u.h))=(Sum.inl (if u.n=s.n then {u with h:=u.h - 1} else u).n,V.int (if u.n=s.n then {u with h:=u.h - 1} else u).h);by_cases c:u.n=s.n
 ·have e:u=s:=cE nn hu hs c;rw[iA (by rw[c]),iA c,e]
 ·rw[fA (λz=>c (YA z)),fA c]
theorem ph {S:List Sh} {n:Int}:VE n (YC n S)=VE n S:=by
 unfold VE YC
 induction S with
 |nil=>rfl
 |cons u r ih=>
  by_cases c:u.n=n
  ·rw[yA,iA c,vB (by simp[c]),vB (by simp[c]),ih]
  ·rw[yA,fA c,wB (by simp[c]),wB (by simp[c]),ih]
theorem qh {S:List Sh} {n:Int}:JD (MD S) (Sum.inl n)=MD (VE n S):=by
 unfold JD MD VE;rw[List.filter_map];congr 1;refine List.filter_congr λt ο=>?_;show decide ((Sum.inl t.n:Key)≠Sum.inl n)=decide (t.n≠n);rw[eB];simp only[SA];exact⟨λz e=>z (by rw[e]),λz e=>z (YA e)⟩
theorem uh {S:List Sh} {n:Int}:JD (tE S) (Sum.inl n)=tE (VE n S):=by
 unfold JD tE VE;rw[List.filter_map];congr 1;refine List.filter_congr λt ο=>?_;show decide ((Sum.inl t.n:Key)≠Sum.inl n)=decide (t.n≠n);rw[eB];simp only[SA];exact⟨λz e=>z (by rw[e]),λz e=>z (YA e)⟩
theorem vh {S:List Sh} {n:Int}:tE (YC n S)=tE S:=by
 unfold tE YC;rw[lA];refine DA λu ο=>?_;show ((Sum.inl (if u.n=n then {u with h:=u.h - 1} else u).n:Key),V.ref (if u.n=n then {u with h:=u.h - 1} else u).a)=_
 split<;>rfl
inductive b8 (A:RC) (vs:List V) (H:Hp) (Q:VK) (E:XK):Prop where
 |mk (r:Ro) (made:Int) (S:List Sh) (d:Addr) (kv:Kvs) (x:Int) (_:vs=[.ref r.p,.ref d,.int x]) (_:ID A H r made S) (_:H d=some (.dK kv)) (_:d≠r.sd) (_:d≠r.hd) (_:S.length<=100000) (_:((gC kv (Sum.inl x)=none/\Q .non H)\/∃s∈S,gC kv (Sum.inl x)=some (.int s.n)/\∀H',ID A H' r made (oE s.n s.h S)->H' d=some (.dK (JD kv (Sum.inl x)))->(∀c o,H c=some o->c≠d->c≠r.sd->c≠r.hd->H' c=some o)->Q .non H')):b8 A vs H Q E
def OL (A:RC):Sp:=b8 A
theorem fK (T:fD K mg A):AC P w K mg base A.Ab "let_page_go" 1 ["self","pages","page"] [] (OL A):=by
 refine T.Cz.have U6 (λvs H Q E z=>?_) ?_
 ·obtain⟨r,made,S,d,kv,x,rfl,_⟩:=z;rfl
 ·intro f cdv A' outer s H vs Q E hr z;obtain⟨r,made,S,d,kv,x,rfl,hS,hd,n1,n2,hl,q⟩:=z;obtain⟨dx,h1⟩:=hS.me;refine⟨_,(CC (hE (bJ (NN (dD hr) (eC 2) (eC 1))) (FC kb) kE)
   (CC (iD (i:=3) U6.nd rfl (Or.inl rfl) (eR (eC 1) (eC 2) ⟨rfl,rfl,rfl,rfl⟩))
   (CC (QF (dD hr) (cD (eC 0) rfl) (eC 3) (BD tH (VD (dD hr) (cD (eC 0) rfl) (eC 3) (λο ο=>rfl)) yC) rfl)
   (FC (hE (pE EI (VD (dD hr) (cD (eC 0) rfl) (eC 3) (λο ο=>rfl)) yC (wC _)) (CC (GE (eR (cD (eC 0) rfl) (eC 3) ⟨rfl,rfl,rfl,rfl⟩))
   (FC (GE (eR (cD (eC 0) rfl) (eC 3) ⟨rfl,rfl,rfl,rfl⟩)))) kE))))),?_⟩
  unfold qE zH pD ND;rfl';rcases q with ⟨hv,q⟩|⟨s,hs,hv,q⟩
  ·exact⟨_,.inl ⟨kv,Sum.inl x,.inl hd,rfl,hv.symm⟩,xD q⟩
  refine⟨_,.inl ⟨kv,Sum.inl x,.inl hd,rfl,hv.symm⟩,wD ⟨.inl ⟨_,.inl hd⟩,kv,hd,Sum.inl x,rfl,_,hv,?_⟩⟩;have k1:Kd d H (jC H d (.dK (JD kv (Sum.inl x)))):=sE;have hd1:jC H d (.dK (JD kv (Sum.inl x))) d=some (.dK (JD kv (Sum.inl x))):=IC;generalize jC H d (.dK (JD kv (Sum.inl x)))=H1 at *;have hp1:=k1 _ _ h1 (LC h1 hd (λz=>nomatch z));have hs1:=k1 _ _ hS.s n1.symm;have hh1:=k1 _ _ hS.h n2.symm;have hz:=PySem.sizeLine_eq;have hlen:(MD S).length < PySem.sizeLine:=by unfold MD;rw[cA];omega
  refine⟨_,dx,_,hp1,T.Ac,T.Aj,_,XH,r.hd,rfl,_,.inl ⟨MD S,Sum.inl s.n,.inl hh1,rfl,(eK hS.nn hs).symm⟩,s.h,rfl,_,dx,_,hp1,T.Ac,T.Aj,_,XH,r.hd,rfl,_,.inl ⟨MD S,Sum.inl s.n,hh1,rfl,hlen,rfl⟩,?_⟩;rw[oh hS.nn hs];have hne:r.p≠r.hd:=LC hp1 hh1 (λz=>nomatch z);have k2:Kd r.hd H1 (jC H1 r.hd (.dK (MD (YC s.n S)))):=sE;have hh2:jC H1 r.hd (.dK (MD (YC s.n S))) r.hd=some (.dK (MD (YC s.n S))):=IC;generalize jC H1 r.hd (.dK (MD (YC s.n S)))=H2 at *;have hp2:=k2 _ _ hp1 hne;have hs2:=k2 _ _ hs1 hS.ne;have hd2:=k2 _ _ hd1 n2;have hx2:∀t∈S,H2 t.a=some (.lst (t.xs.map V.int)):=λt ht=>by
   have e1:=k1 _ _ (hS.x t ht) (LC (hS.x t ht) hd (λz=>nomatch z));exact k2 _ _ e1 (LC e1 hh1 (λz=>nomatch z))
  have nnL:((YC s.n S).map Sh.n)=S.map Sh.n:=by
   unfold YC;rw[lA];refine DA λu ο=>?_;show (if u.n=s.n then {u with h:=u.h - 1} else u).n=u.n
   split<;>rfl
  have naL:((YC s.n S).map Sh.a)=S.map Sh.a:=by
   unfold YC;rw[lA];refine DA λu ο=>?_;show (if u.n=s.n then {u with h:=u.h - 1} else u).a=u.a
   split<;>rfl
  have hsL:(⟨s.n,s.a,s.xs,s.h - 1⟩:Sh)∈YC s.n S:=bA.mpr ⟨s,hs,iA rfl⟩;have hvL:gC (MD (YC s.n S)) (Sum.inl s.n)=some (.int (s.h - 1)):=eK (s:=⟨s.n,s.a,s.xs,s.h - 1⟩) (by rw[nnL];exact hS.nn) hsL;refine⟨_,dx,_,hp2,T.Ac,T.Aj,_,XH,r.hd,rfl,_,.inl ⟨_,Sum.inl s.n,.inl hh2,rfl,hvL.symm⟩,rfl,?_⟩;by_cases c:s.h=1;rotate_left
  ·rw[fA (λz=>c (by have:=V.int.inj z;omega))];refine q _ ?_ hd2 (λe o h h1 h2 h3=>k2 _ _ (k1 _ _ h h1) h3);unfold oE;rw[fA c];refine⟨⟨dx,hp2⟩,by rw[vh];exact hs2,hh2,λt ht=>?_,by rw[naL];exact hS.nd,by rw[nnL];exact hS.nn,λt ht=>?_,hS.ne⟩
   ·obtain⟨u,hu,rfl⟩:=bA.mp ht;have:=hx2 u hu
    split<;>exact this
   ·obtain⟨u,hu,rfl⟩:=bA.mp ht;have:=hS.b u hu
    split<;>exact this
  rw[iA (by rw[c];rfl)];refine⟨_,dx,_,hp2,T.Ac,T.Aj,_,XH,r.hd,rfl,.inl ⟨_,.inl hh2⟩,_,hh2,Sum.inl s.n,rfl,_,hvL,?_⟩;rw[qh,ph];have k3:Kd r.hd H2 (jC H2 r.hd (.dK (MD (VE s.n S)))):=sE;have hh3:jC H2 r.hd (.dK (MD (VE s.n S))) r.hd=some (.dK (MD (VE s.n S))):=IC;generalize jC H2 r.hd (.dK (MD (VE s.n S)))=H3 at *;have hp3:=k3 _ _ hp2 hne;have hs3:=k3 _ _ hs2 hS.ne;have hd3:=k3 _ _ hd2 n2;refine⟨_,dx,_,hp3,T.Ac,T.Ai,_,WH,r.sd,rfl,.inl ⟨_,.inl hs3⟩,_,hs3,Sum.inl s.n,rfl,_,MM hS.nn hs,?_⟩;rw[uh];have sub:∀t∈VE s.n S,t∈S:=λt ht=>(AA.mp ht).1;refine q _ ?_ (by rw[vC n1];exact hd3) (λe o h h1 h2 h3=>by rw[vC h2];exact k3 _ _ (k2 _ _ (k1 _ _ h h1) h3) h3);unfold oE;rw[iA c];refine⟨⟨dx,by rw[vC (LC hp3 hs3 (λz=>nomatch z))];exact hp3⟩,IC,by rw[vC hS.ne.symm];exact hh3,λt ht=>?_,hS.nd.sublist (List.Sublist.map _ List.filter_sublist),hS.nn.sublist (List.Sublist.map _ List.filter_sublist),λt ht=>hS.b t (sub t ht),hS.ne⟩;have e2:=hx2 t (sub t ht);have e3:=k3 _ _ e2 (LC e2 hh2 (λz=>nomatch z));rw[vC (LC e3 hs3 (λz=>nomatch z))];exact e3
inductive c8 (A:RC) (vs:List V) (H:Hp) (Q:VK) (E:XK):Prop where
 |mk (r:Ro) (made:Int) (S:List Sh) (_:vs=[.ref r.p]) (_:ID A H r made S) (_:Q (.int S.length) H):c8 A vs H Q E
def xh (A:RC):Sp:=c8 A
theorem PL (T:fD K mg A):AC P w K mg base A.Ab "live_sheets" 1 ["self"] [] (xh A):=by
 refine T.Cw.have eg (λvs H Q E z=>?_) ?_
 ·obtain⟨r,made,S,rfl,_⟩:=z;rfl
 ·intro f cdv A' outer s H vs Q E hr z;obtain⟨r,made,S,rfl,hS,q⟩:=z;obtain⟨dx,h1⟩:=hS.me;refine⟨_,(FC (uD (rF PN rfl T.A7 PySem.boot_len (iC (cD (eC 0) rfl) rC)))),?_⟩;rfl';simp only[h1];rfl';refine⟨T.Ac,T.Ai,_,WH,r.sd,rfl,_,hS.s,?_⟩;rw[show (tE S).length=S.length by unfold tE;rw[cA]];exact q
def d8 (C:Addr):Sp:=λvs H Q ο=>∃(p:Addr) (l f g:Int),vs=[.ref p]/\tD C H p l f g/\Q (.int (pw g)) H
theorem QL (T:fD K mg A):AC P w K mg base A.Ae "sheet_size" 1 ["self"] [] (d8 A.Ae):=by
 refine T.Di.have sf (λvs H Q E z=>?_) ?_
 ·obtain⟨p,l,f,g,rfl,_⟩:=z;rfl
 ·intro f cdv A' outer s H vs Q E hr z;obtain⟨p,l,f',g,rfl,hS,q⟩:=z;obtain⟨dx,hp⟩:=id hS;refine⟨_,(FC (uD (cD (eC 0) rfl))),?_⟩;rfl';simp only[hp];rfl';exact⟨T.Au,T.A1,_,oQ,q⟩
def gU (A:RC):Sp:=λvs H Q ο=>∃(r:Ro) (made:Int) (S:List Sh) (l f g:Int),vs=[.ref r.p]/\ID A H r made S/\tD A.Ae H r.sh l f g/\gd l f g/\∀a H',uC H H'->H a=none->H' a=some (.lst ((List.replicate (pw g).toNat (0:Int)).map V.int))->Q (.ref a) H'
theorem gK (T:fD K mg A):AC P w K mg base A.Ab "noughts" 2 ["self"] [] (gU A):=by
 have Dy:=@QL P w K mg base A T;refine T.E9.have fg (λvs H Q E z=>?_) ?_
 ·obtain⟨r,made,S,l,f,g,rfl,_⟩:=z;rfl
 ·intro f cdv A' outer s H vs Q E hr z;obtain⟨r,made,S,l,f',g,rfl,hS,hsh,hg,q⟩:=z;obtain⟨dx,h1⟩:=hS.me;obtain⟨dxs,h2⟩:=id hsh;have b:=oI hg;refine⟨_,(FC (uD (BD ZQ (gI (iC yC rC)) (mI (cD (eC 0) rfl) T.Au Dy (hr.mono (by decide)) GC)))),?_⟩;unfold d8;rfl';intro p hp;have u:=bE (o:=.lst [V.int 0]) (LD (H:=H)) hp;have hp1:jC H p (.lst [V.int 0]) p=some (.lst [V.int 0]):=IC;have hz:=PySem.sizeLine_eq;generalize jC H p (.lst [V.int 0])=H1 at *;refine⟨_,dx,_,u _ _ h1,T.Ac,T.Cb,_,kh,r.sh,rfl,dxs,_,u _ _ h2,nI ∅,r.sh,rfl,l,f',g,hsh.same u,p,pw g,[V.int 0],rfl,rfl,hp1,⋯,⋯,by show 1 * (pw g).toNat<=PySem.sizeLine;omega,λa ha=>?_⟩;have e:(List.replicate (pw g).toNat [V.int 0]).flatten=(List.replicate (pw g).toNat (0:Int)).map V.int:=by
   generalize (pw g).toNat=k
   induction k with
   |zero=>rfl
   |succ k ih=>rw[gB,AB,ih,gB];rfl
  rw[e];exact q a _ (u.trans (bE LD ha)) (VF u ha) IC
theorem ID.kd {H H':Hp} {r:Ro} {made:Int} {S:List Sh} {d:Addr} {kvs:Kvs} (h:ID A H r made S) (hd:H d=some (.dK kvs)) (n1:d≠r.sd) (n2:d≠r.hd) (k:Kd d H H'):ID A H' r made S:=
 ⟨let ⟨dx,e⟩:=h.me;⟨dx,k _ _ e (LC e hd (λz=>nomatch z))⟩,k _ _ h.s n1.symm,k _ _ h.h n2.symm,λt ht=>k _ _ (h.x t ht) (LC (h.x t ht) hd (λz=>nomatch z)),h.nd,h.nn,h.b,h.ne⟩
def f8 (A:RC):Sp:=λvs H Q E=>∃(r:Ro) (made:Int) (S:List Sh) (l f g:Int) (d:Addr) (kv:Kvs) (x:Int),vs=[.ref r.p,.ref d,.int x]/\ID A H r made S/\S.length<=100000/\tD A.Ae H r.sh l f g/\gd l f g/\r.sh≠r.p/\H d=some (.dK kv)/\kv.length<=100000/\d≠r.sd/\d≠r.hd/\
 ((∃n:Int,gC kv (Sum.inl x)=some (.int n)/\Q (.int n) H)\/(gC kv (Sum.inl x)=none/\(S.length:Int)>=r.most/\∀H',uC H H'->E (.ref A.Aq) none H')\/
 (gC kv (Sum.inl x)=none/\(S.length:Int) < r.most/\∀a H',ID A H' r (made+1) (S++[⟨made,a,List.replicate (pw g).toNat 0,1⟩])->H a=none->H' d=some (.dK (kv++[(Sum.inl x,.int made)]))->(∀c o,H c=some o->c≠d->c≠r.p->c≠r.sd->c≠r.hd->H' c=some o)->Q (.int made) H'))
theorem CO (T:fD K mg A):AC P w K mg base A.Ab "sheet_there" 3 ["self","pages","page"] [] (f8 A):=by
 have Bj:=@gK P w K mg base A T;have Bd:=@cK P w K mg base A T;refine T.Cy.have gg (λvs H Q E z=>?_) ?_
 ·obtain⟨r,made,S,l,f,g,d,kv,x,rfl,_⟩:=z;rfl
 ·intro f cdv A' outer s H vs Q E hr z;obtain⟨r,made,S,l,f',g,d,kv,x,rfl,hS,hl,hsh,hg,nsh,hd,hkl,n1,n2,q⟩:=z;obtain⟨dx,h1⟩:=hS.me;refine⟨_,(CC (hE (bJ (NN (dD hr) (eC 2) (eC 1))) (FC (QF (dD hr) (eC 1) (eC 2) (HD (eC 0) T.Ac Bd (hr.mono (by decide)) GC (iC (mI (eC 0) T.Ac Bj (hr.mono (by decide)) GC) rC)) rfl)) kE)
   (FC (uD (VD (dD hr) (eC 1) (eC 2) (λο ο=>rfl))))),?_⟩
  unfold gU a8 qE pD ND;rfl';have hz:=PySem.sizeLine_eq;rcases q with ⟨n,hv,q⟩|⟨hv,hm,q⟩|⟨hv,hm,q⟩
  ·exact⟨_,.inl ⟨kv,Sum.inl x,.inl hd,rfl,hv.symm⟩,wD ⟨_,.inl ⟨kv,Sum.inl x,.inl hd,rfl,hv.symm⟩,q⟩⟩
  ·exact⟨_,.inl ⟨kv,Sum.inl x,.inl hd,rfl,hv.symm⟩,xD ⟨dx,_,h1,QE ∅,dx,_,h1,QE ∅,r,rfl,made,S,hS,l,f',g,hsh,hg,λa H1 s1 ha ha1=>⟨r,rfl,made,S,hS.same s1,hl,_,ha1,.inl ⟨hm,q _ s1⟩⟩⟩⟩
  ·refine⟨_,.inl ⟨kv,Sum.inl x,.inl hd,rfl,hv.symm⟩,xD ⟨dx,_,h1,QE ∅,dx,_,h1,QE ∅,r,rfl,made,S,hS,l,f',g,hsh,hg,λa H1 s1 ha ha1=>⟨r,rfl,made,S,hS.same s1,hl,_,ha1,.inr ⟨hm,λa2 H2 hS2 ha2 hk2=>?_⟩⟩⟩⟩;have hd1:=s1 _ _ hd;have hd2:=hk2 _ _ hd1 (LC hd h1 (λz=>nomatch z)) n1 n2;refine⟨_,.inl ⟨kv,Sum.inl x,hd2,rfl,⋯,rfl⟩,?_⟩;rw[sJ _ hv];exact⟨.int made,.inl ⟨_,Sum.inl x,.inl IC,rfl,by rw[PP _ _ _ _ hv,iA rfl]⟩,q a2 _ (hS2.kd hd2 n1 n2 sE) (VF s1 ha2) IC (λc o h h1 h2 h3 h4=>by rw[vC h1];exact hk2 _ _ (s1 _ _ h) h2 h3 h4)⟩
noncomputable abbrev Pg:=Int×Int×Option (Int×Int)
def zF (H:Hp) (v:V) (p:Pg):Prop:=∃a tv,v=.ref a/\H a=some (.tup [.int p.1,.int p.2.1,tv])/\rD H tv p.2.2
theorem zF.same {H H':Hp} {v:V} {p:Pg} (h:zF H v p) (s:uC H H'):zF H' v p:=let ⟨a,tv,e,h1,h2⟩:=h;⟨a,tv,e,s _ _ h1,h2.same s⟩
theorem zF.kd {H H':Hp} {v:V} {p:Pg} {d:Addr} {vs:List V} (h:zF H v p) (hd:H d=some (.lst vs)) (k:Kd d H H'):zF H' v p:=
 let ⟨a,tv,e,h1,h2⟩:=h;⟨a,tv,e,k _ _ h1 (LC h1 hd (λz=>nomatch z)),rD.kd hd (λο z=>nomatch z) k h2⟩
def vQ (r:Rn):List Pg:=(List.range r.m.toNat).map λ(i:Nat)=>(r.f+(i:Int),r.r,tf r (r.f+(i:Int)))
def WF (rs:List Rn):List Pg:=(rs.map vQ).flatten
theorem VI {α:Type} {R S:V->α->Prop} {us:List V} {ps:List α} (h:Paired R us ps) (f:∀v p,R v p->S v p):Paired S us ps:=by
 induction h with
 |nil=>exact .nil
 |cons a _ ih=>exact .cons (f _ _ a) ih
theorem DO {α β:Type} {F:α->β->Prop}:∀{xs:List α} {ys:List β} {zs:List α} {ws:List β},Paired F xs ys->Paired F zs ws->Paired F (xs++zs) (ys++ws)
 |_,_,_,_,.nil,h=>h
 |_,_,_,_,.cons r t,h=>.cons r (DO t h)
inductive iK (A:RC) (vs:List V) (H:Hp) (Q:VK) (E:XK):Prop where
 |mk (z:Hz) (l f g:Int) (tks:List Tk) (bk:Kvs) (n:Int) (t:Tk) (_:vs=[.ref z.p,.int n]) (_:WD A H z l f g tks bk) (_:t∈tks) (_:t.n=n) (_:(∀r∈t.rs,0<=r.f/\0<=r.m/\aD r<=100000000)) (_:(WF t.rs).length<=100000) (_:∀b us H',uC H H'->H b=none->H' b=some (.lst us)->Paired (zF H') us (WF t.rs)->Q (.ref b) H'):iK A vs H Q E
def EO (A:RC):Sp:=iK A
theorem iU (T:fD K mg A):AC P w K mg base A.Ad "pages_of" 3 ["self","task"] [] (EO A):=by
 have Cp:=@dU P w K mg base A T;have Ay:=@rO P w K mg base A T;have Bi:=@FT P w K mg base A T;refine T.Ei.have ES (λvs H Q E z=>?_) ?_
 ·obtain⟨z,l,f,g,tk,bk,n,t,rfl,_⟩:=z;rfl
 ·intro f cdv A' outer s H vs Q E hr z;obtain⟨z,l,f',g,tks,bk,n,t,rfl,hS,ht,hn,hm,hlen,q⟩:=z;obtain⟨dx,h1⟩:=hS.me;refine⟨_,(CC (iD (i:=2) ES.nd rfl (Or.inl rfl) (gI rC))
   (CC (GH aB rfl (BI (HD (eC 0) T.Ag Cp (hr.mono (by decide)) GC (iC (eC 1) rC))) (wF (i:=3) ES.nd rfl (Or.inr rfl)) (FC (GE (NP PySem.F.plainAttrs_list PySem.F.slot_list_extend PySem.F.type_list_extend wc (eC 2) (iC (xR rfl (wb rfl T.D0 (iC (GD fE (eC 3) yC (λο ο=>rfl)) (iC (DD Ay (hr.mono (by decide)) GC (iC (eC 3) rC)) rC))) (x:="page") (fs:=["run"]) (ix:=[3]) rfl rfl (λο ο ο ο ο ο=>(wF (i:=0) (show (["page","run"]:List Str).Nodup by decide+kernel) rfl (Or.inl rfl))) (λο ο ο ο ο ο=>wR) (λο ο ο ο ο ο=>(NG (iC (eC 0) (iC (GD (dQ (K:=K) rfl) (eC 1) yC (λο ο=>rfl)) (iC (DD Bi (hr.mono (by decide)) dL (iC (eC 1) (iC (eC 0) rC))) rC)))))) rC)))))
   (FC (uD (eC 2))))),?_⟩
  unfold aK KM rQ;rfl';intro p hp;have s1:=bE (o:=.lst []) (LD (H:=H)) hp;have hp1:jC H p (.lst []) p=some (.lst []):=IC;generalize jC H p (.lst [])=H1 at *;refine⟨dx,_,s1 _ _ h1,DF ∅,z,rfl,l,f',g,tks,bk,hS.same s1,.inr ⟨t,ht,hn,λb us hb hR=>?_⟩⟩;have s2:=bE (o:=.lst us) (LD (H:=H1)) hb;have hb2:jC H1 b (.lst us) b=some (.lst us):=IC;generalize jC H1 b (.lst us)=H2 at *;have hul:us.length=t.rs.length:=Paired.length hR;have hp2:=s2 _ _ hp1;have hbp:b≠p:=λe=>by rw[e,hp1] at hb;cases hb
  refine⟨⟨_,QC.of hb2⟩,SN (K:=K) (xs:=us) (λi σ H'=>∃vs v3,σ=[some (.ref z.p),some (.int n),some (.ref p),v3]/\Kd p H2 H'/\H' p=some (.lst vs)/\Paired (zF H') vs (WF (t.rs.take i))) ⟨_,_,rfl,λο ο h ο=>h,hp2,.nil⟩ (λi σ H' _ zz=>by obtain⟨_,_,zz⟩:=zz;exact QC.of (zz.2.1 _ _ hb2 hbp)) (λi x σ H' hi=>?_) (λσ H'=>?_)⟩
  ·rintro⟨vs,v3,rfl,k,hp3,hP⟩;obtain⟨r,hr1,hr2⟩:=RI hR hi;have htk:t.rs.take (i+1)=t.rs.take i++[r]:=by rw[NA,hr1];rfl
   obtain⟨hb0,hb1,hb9⟩:=hm r (JA hr1);have hr3:VC H' x r:=by
    have:=oC.kd hp2 (λο z=>nomatch z) k hR;obtain⟨r',e1,e2⟩:=RI this hi;rw[hr1] at e1;cases e1;exact e2
   obtain⟨c,cv,rfl,hc,hcv⟩:=id hr3;have hsum:(WF (t.rs.take i)).length+r.m.toNat<=100000:=by
    have e:WF t.rs=WF (t.rs.take i)++(vQ r++WF (t.rs.drop (i+1))):=by
     have e0:t.rs=t.rs.take i++r::t.rs.drop (i+1):=by
      have:=(IA.mp hr1)
      obtain⟨h,e⟩:=this;rw[<-e,List.getElem_cons_drop,List.take_append_drop]
     unfold WF
     conv=>lhs;rw[e0,gA,List.flatten_append,yA,AB]
    rw[e,oA,oA] at hlen;have:(vQ r).length=r.m.toNat:=by unfold vQ;rw[cA,ZB]
    omega
   have hz:=PySem.sizeLine_eq;have hvl:=Paired.length hP;rfl';have hb8:=hb9;unfold aD at hb8;refine⟨.inl ⟨rfl,_,QC.of hp3⟩,_,ZC.of hc,.int r.f,rfl,r,hr3,r.f,rfl,⋯,⋯,by unfold aD;omega,⋯,λD hD=>?_⟩;have e9:(aD r - r.f).toNat=r.m.toNat:=by unfold aD;omega
   rw[e9];have hDp:D≠p:=λe=>by rw[e,hp3] at hD;cases hD
   refine Zd (λj zs σ H3=>∃v0,σ=[v0,some (.ref c)]/\uC H' H3/\H3 D=some (.lst zs)/\Paired (zF H3) zs ((List.range j).map λ(i:Nat)=>(r.f+(i:Int),r.r,tf r (r.f+(i:Int))))) ⟨_,rfl,bE LD hD,IC,.nil⟩ (λj zs σ H3 hj=>?_) (λzs σ H3=>?_)
   ·rintro⟨v0,rfl,s3,hD3,hZ⟩;have hzl:=Paired.length hZ;rw[cA,ZB] at hzl;rfl';refine⟨_,ZC.of (s3 _ _ hc),.int r.r,rfl,r,hr3.same s3,λu H4 s4 hu np hnp=>?_⟩;have s5:=bE (o:=.tup [V.int (r.f+(j:Int)),V.int r.r,u]) (LD (H:=H4)) hnp;have hnp5:jC H4 np (.tup [V.int (r.f+(j:Int)),V.int r.r,u]) np=some (.tup [V.int (r.f+(j:Int)),V.int r.r,u]):=IC;generalize jC H4 np (.tup [V.int (r.f+(j:Int)),V.int r.r,u])=H5 at *;have hD5:=s5 _ _ (s4 _ _ hD3);refine⟨hD5,⋯,SH ((s3.trans s4).trans s5) hD,?_⟩;rw[List.range_succ,gA];refine DO (VI hZ λv p h=>((h.same s4).same s5).kd hD5 sE) (.cons (zF.kd ⟨np,u,rfl,hnp5,hu.same s5⟩ hD5 sE) .nil)
   ·rintro⟨v0,rfl,s3,hD3,hZ⟩;have hzl:=Paired.length hZ;rw[cA,ZB] at hzl;have hp4:=s3 _ _ hp3;refine⟨p,D,vs,zs,rfl,rfl,hp4,hD3,⋯,λe o h hn=>by rw[vC hn];exact s3 _ _ (k _ _ h hn),_,IC,?_⟩;rw[htk];unfold WF;rw[gA,List.flatten_append];exact DO (VI hP λv p h=>(h.same s3).kd hp4 sE) (by rw[yA,BB,AB,List.flatten_nil,GB];exact VI hZ λv p h=>h.kd hp4 sE)
  ·rintro⟨vs,v3,rfl,k,hp3,hP⟩;rfl';rw[hul,VA] at hP;exact q p vs H' (λe o h=>k _ _ (s2 _ _ (s1 _ _ h)) (λz=>by rw[z,hp] at h;cases h)) hp hp3 hP
set_option genInjectivity false in
structure Pv where
 n:Int
 d:Addr
 m:List (Int×Int)
def qG (pv:List Pv):Kvs:=pv.map λe=>((Sum.inl e.n:Key),V.ref e.d)
def mD (m:List (Int×Int)):Kvs:=m.map λx=>((Sum.inl x.1:Key),V.int x.2)
def EF (r:Ro) (z:Hz) (pv:List Pv):List Addr:=r.sd::r.hd::r.pd::z.td::z.bd::pv.map Pv.d
structure RB (A:RC) (H:Hp) (r:Ro) (z:Hz) (l f g:Int) (tks:List Tk) (pv:List Pv):Prop where
 s:ID A H r 0 []
 h:WD A H z l f g tks []
 gd:gd l f g
 ho:r.ho=z.p
 sh:r.sh=z.sh
 pd:H r.pd=some (.dK (qG pv))
 pe:∀e∈pv,e.m=[]/\H e.d=some (.dK [])
 nm:pv.map Pv.n=tks.map Tk.n
 nd:(EF r z pv).Nodup
def FF (z:Hz) (c:Addr) (o:HO):Prop:=(∃kvs,o=.dK kvs/\c≠z.td/\c≠z.bd)\/∃C dx fs,o=.ins C dx fs/\fs.lookup ("made":Str)≠none
def Hk (z:Hz) (B H:Hp):Prop:=∀c o,B c=some o->H c=some o\/FF z c o
theorem Hk.refl {z:Hz} {B:Hp}:Hk z B B:=λο ο h=>.inl h
theorem Hk.same {z:Hz} {B H H':Hp} (k:Hk z B H) (s:uC H H'):Hk z B H':=λc o h=>(k c o h).imp (s c o) id
theorem RL {z:Hz} {B H:Hp} (k:Hk z B H) {v:V} {r:Rn} (h:VC B v r):VC H v r:=by
 obtain⟨a,tv,e,h1,h2⟩:=h;have tp:∀a xs,B a=some (.tup xs)->H a=some (.tup xs):=λa xs h=>by
  rcases k _ _ h with e|⟨_,e,_⟩|⟨_,_,_,e,_⟩
  ·exact e
  ·cases e
  ·cases e
 refine⟨a,tv,e,tp _ _ h1,?_⟩;cases hT:r.t with
 |none=>rw[hT] at h2;exact h2
 |some t=>rw[hT] at h2;obtain⟨a,e,h⟩:=h2;exact⟨a,e,tp _ _ h⟩
theorem WD.hk {A:RC} {B H:Hp} {z:Hz} {l f g:Int} {tks:List Tk} {bk:Kvs} (h:WD A B z l f g tks bk) (k:Hk z B H):WD A H z l f g tks bk:=by
 obtain⟨dx,e⟩:=h.me;obtain⟨dxs,es⟩:=id h.sh;have ins:∀{c C dx fs},B c=some (.ins C dx fs)->fs.lookup ("made":Str)=none->H c=some (.ins C dx fs):=λh n=>by
  rcases k _ _ h with e|⟨_,e,_⟩|⟨_,_,_,e,m⟩
  ·exact e
  ·cases e
  ·cases e;exact absurd n m
 refine⟨⟨dx,ins e (DF ∅)⟩,⟨dxs,ins es (nI ∅)⟩,?_,?_,λt ht=>?_,h.nd,h.nk,h.vb,h.ne,h.np⟩
 ·rcases k _ _ h.t with e|⟨_,e,n,_⟩|⟨_,_,_,e,_⟩
  ·exact e
  ·exact absurd rfl n
  ·cases e
 ·rcases k _ _ h.b with e|⟨_,e,_,n⟩|⟨_,_,_,e,_⟩
  ·exact e
  ·exact absurd rfl n
  ·cases e
 ·obtain⟨a,⟨dx2,vs,e1,e2,e3⟩,e4⟩:=h.st t ht;refine⟨a,⟨dx2,vs,ins e1 (cG ∅),?_,VI e3 λv p hp=>RL k hp⟩,e4⟩;rcases k _ _ e2 with e|⟨_,e,_⟩|⟨_,_,_,e,_⟩
  ·exact e
  ·cases e
  ·cases e
structure yh (A:RC) (B H:Hp) (r:Ro) (z:Hz) (l f g:Int) (tks:List Tk) (made:Int) (S:List Sh) (pv:List Pv) (own:Int->Int×Int) (con:Int->Int->Option (List Int)):Prop where
 hB:WD A B z l f g tks []
 k:Hk z B H
 gd:gd l f g
 ho:r.ho=z.p
 sh:r.sh=z.sh
 s:ID A H r made S
 pd:H r.pd=some (.dK (qG pv))
 pe:∀e∈pv,H e.d=some (.dK (mD e.m))
 nm:pv.map Pv.n=tks.map Tk.n
 nd:(EF r z pv).Nodup
 sb:∀s∈S,B s.a=none
 dm:∀c,H c=none->B c=none
 x:∀e∈pv,∀y∈e.m,∃s∈S,s.n=y.2/\s.h=1/\con e.n y.1=some s.xs/\own y.2=(e.n,y.1)
 c:∀e∈pv,∀x,(∀y∈e.m,y.1≠x)->con e.n x=none
 sz:∀s∈S,s.xs.length=(pw g).toNat
 ml:∀e∈pv,e.m.length<=S.length
 ux:∀e∈pv,∀y∈e.m,∀y'∈e.m,y.1=y'.1->y.2=y'.2
def RA (A:RC) (B H:Hp) (r:Ro) (z:Hz) (l f g:Int) (tks:List Tk) (ds:List Addr) (con:Int->Int->Option (List Int)) (cnt:Nat):Prop:=
 ∃made S pv own,yh A B H r z l f g tks made S pv own con/\pv.map Pv.d=ds/\S.length=cnt/\cnt<=10000
theorem RB.same {A:RC} {H H':Hp} {r:Ro} {z:Hz} {l f g:Int} {tks:List Tk} {pv:List Pv} (h:RB A H r z l f g tks pv) (s:uC H H'):RB A H' r z l f g tks pv:=
 ⟨h.s.same s,h.h.same s,h.gd,h.ho,h.sh,s _ _ h.pd,λe he=>⟨(h.pe e he).1,s _ _ (h.pe e he).2⟩,h.nm,h.nd⟩
theorem RA.same {A:RC} {B H H':Hp} {r:Ro} {z:Hz} {l f g:Int} {tks:List Tk} {ds:List Addr} {con:Int->Int->Option (List Int)} {cnt:Nat} (h:RA A B H r z l f g tks ds con cnt) (s:uC H H'):RA A B H' r z l f g tks ds con cnt:=
 let ⟨m,S,pv,own,h,e1,e2,e3⟩:=h
 ⟨m,S,pv,own,⟨h.hB,h.k.same s,h.gd,h.ho,h.sh,h.s.same s,s _ _ h.pd,λe he=>s _ _ (h.pe e he),h.nm,h.nd,h.sb,λc hc=>h.dm c (VF s hc),h.x,h.c,h.sz,h.ml,h.ux⟩,e1,e2,e3⟩
def Kp (U:Addr->Prop) (H H':Hp):Prop:=(∀c o,H c=some o->¬U c->H' c=some o)/\∀c,H' c=none->H c=none
theorem ID.kp {A:RC} {H H':Hp} {r:Ro} {made:Int} {S:List Sh} {U:Addr->Prop} {z:Hz} (h:ID A H r made S) (k:Kp U H H') (u:∀c,U c->c≠r.p/\c≠r.sd/\c≠r.hd) (lo:∀c o,U c->H c=some o->FF z c o):ID A H' r made S:=by
 obtain⟨dx,e⟩:=h.me;refine⟨⟨dx,k.1 _ _ e λz=>(u _ z).1 rfl⟩,k.1 _ _ h.s λz=>(u _ z).2.1 rfl,k.1 _ _ h.h λz=>(u _ z).2.2 rfl,λs hs=>k.1 _ _ (h.x s hs) λz=>?_,h.nd,h.nn,h.b,h.ne⟩;rcases lo _ _ z (h.x s hs) with ⟨_,e,_⟩|⟨_,_,_,e,_⟩<;>cases e
theorem Hk.kp {z:Hz} {B H H':Hp} {U:Addr->Prop} (k:Hk z B H) (kp:Kp U H H') (lo:∀c o,U c->H c=some o->FF z c o):Hk z B H':=λc o h=>by
 rcases k c o h with e|e
 ·by_cases hu:U c
  ·exact .inr (lo c o hu e)
  ·exact .inl (kp.1 _ _ e hu)
 ·exact .inr e
theorem RA.kp {A:RC} {B H H':Hp} {r:Ro} {z:Hz} {l f g:Int} {tks:List Tk} {ds:List Addr} {con:Int->Int->Option (List Int)} {cnt:Nat} {U:Addr->Prop} (h:RA A B H r z l f g tks ds con cnt) (k:Kp U H H')
  (u:∀c,U c->c≠r.p/\c≠r.sd/\c≠r.hd/\c≠r.pd/\c∉ds) (lo:∀c o,U c->H c=some o->FF z c o):RA A B H' r z l f g tks ds con cnt:=by
 obtain⟨m,S,pv,own,h,e1,e2,e3⟩:=h;exact⟨m,S,pv,own,⟨h.hB,h.k.kp k lo,h.gd,h.ho,h.sh,h.s.kp k (λc z=>⟨(u c z).1,(u c z).2.1,(u c z).2.2.1⟩) lo,k.1 _ _ h.pd λz=>(u _ z).2.2.2.1 rfl,λe he=>k.1 _ _ (h.pe e he) λz=>(u _ z).2.2.2.2 (by rw[<-e1];exact bA.mpr ⟨e,he,rfl⟩),h.nm,h.nd,h.sb,λc hc=>h.dm c (k.2 c hc),h.x,h.c,h.sz,h.ml,h.ux⟩,e1,e2,e3⟩
theorem RB.kp {A:RC} {H H':Hp} {r:Ro} {z:Hz} {l f g:Int} {tks:List Tk} {pv:List Pv} {U:Addr->Prop} (h:RB A H r z l f g tks pv) (k:Kp U H H')
  (u:∀c,U c->c≠r.p/\c≠r.sd/\c≠r.hd/\c≠r.pd/\c∉pv.map Pv.d) (lo:∀c o,U c->H c=some o->FF z c o):RB A H' r z l f g tks pv:=
 ⟨h.s.kp k (λc z=>⟨(u c z).1,(u c z).2.1,(u c z).2.2.1⟩) lo,h.h.hk (Hk.refl.kp k lo),h.gd,h.ho,h.sh,k.1 _ _ h.pd λz=>(u _ z).2.2.2.1 rfl,λe he=>⟨(h.pe e he).1,k.1 _ _ (h.pe e he).2 λz=>(u _ z).2.2.2.2 (bA.mpr ⟨e,he,rfl⟩)⟩,h.nm,h.nd⟩
structure Dn (r:Ro) (z:Hz) (pv:List Pv):Prop where
 sp:r.sd≠r.pd
 hp:r.hd≠r.pd
 st:r.sd≠z.td
 sb:r.sd≠z.bd
 ht:r.hd≠z.td
 hb:r.hd≠z.bd
 pt:r.pd≠z.td
 pb:r.pd≠z.bd
 e:∀e∈pv,e.d≠r.sd/\e.d≠r.hd/\e.d≠r.pd/\e.d≠z.td/\e.d≠z.bd
 nd:(pv.map Pv.d).Nodup
theorem FO {r:Ro} {z:Hz} {pv:List Pv} (h:(EF r z pv).Nodup):Dn r z pv:=by
 unfold EF at h;simp only[OA,vA,not_or] at h;obtain⟨⟨a1,a2,a3,a4,a5⟩,⟨b1,b2,b3,b4⟩,⟨c1,c2,c3⟩,⟨d1,d2⟩,e1,f⟩:=h;exact⟨a2,b1,a3,a4,b2,b3,c1,c2,λe he=>⟨λz=>a5 (by rw[<-z];exact bA.mpr ⟨e,he,rfl⟩),λz=>b4 (by rw[<-z];exact bA.mpr ⟨e,he,rfl⟩),λz=>c3 (by rw[<-z];exact bA.mpr ⟨e,he,rfl⟩),λz=>d2 (by rw[<-z];exact bA.mpr ⟨e,he,rfl⟩),λz=>e1 (by rw[<-z];exact bA.mpr ⟨e,he,rfl⟩)⟩,f⟩
theorem GO {pv:List Pv} {tks:List Tk} (h:pv.map Pv.n=tks.map Tk.n):zD (qG pv)=zD (KD tks):=by
 unfold zD qG KD;rw[lA,lA];have e1:pv.map ((λx:Key×V=>x.1) ∘ λe:Pv=>((Sum.inl e.n:Key),V.ref e.d))=(pv.map Pv.n).map Sum.inl:=by rw[lA];rfl
 have e2:tks.map ((λx:Key×V=>x.1) ∘ λe:Tk=>((Sum.inl e.n:Key),V.ref e.p))=(tks.map Tk.n).map Sum.inl:=by rw[lA];rfl
 exact e1.trans ((congrArg _ h).trans e2.symm)
theorem WI {p:Addr} {H H':Hp} {o:HO} (k:Kd p H H') (hp:H' p=some o):∀c,H' c=none->H c=none:=λc h=>by
 cases e:H c with
 |none=>rfl
 |some o'=>exact absurd (k c o' e (λz=>by rw[z,hp] at h;cases h)) (by rw[h];exact λz=>nomatch z)
theorem SL {p:Addr} {H H':Hp} {o o0:HO} (_:H' p=some o0) (k:Kd p H H'):jC H' p o p=some o/\Kd p H (jC H' p o)/\Kd p H' (jC H' p o):=⟨IC,k.trans sE,sE⟩
theorem wQ {p c:Addr} {H G:Hp} {o o0:HO} (hp:G p=some o0) (k:Kd p H G) (hc:G c=none):jC (jC G c (.dK [])) p o p=some o/\Kd p H (jC (jC G c (.dK [])) p o)/\Kd p G (jC (jC G c (.dK [])) p o)/\jC (jC G c (.dK [])) p o c=some (.dK [])/\H c=none/\jC G c (.dK []) p=some o0:=by
 have n:c≠p:=λz=>by rw[z,hp] at hc;cases hc
 have k2:Kd p G (jC (jC G c (.dK [])) p o):=λe u h hn=>by rw[vC hn,vC (λz=>by rw[z,hc] at h;cases h)];exact h
 exact⟨IC,k.trans k2,k2,by rw[vC n,IC],WI k hp c hc,by rw[vC n.symm];exact hp⟩
inductive i8 (A:RC) (vs:List V) (H:Hp) (Q:VK) (E:XK):Prop where
 |mk (p dx sh:Addr) (most l f g:Int) (_:vs=[.ref p,.ref sh,.int most]) (_:H p=some (.ins A.Ab dx [])) (_:tD A.Ae H sh l f g) (_:gd l f g) (_:∀r z H',r.p=p->r.most=most->RB A H' r z l f g [] []->(∀c∈EF r z [],H c=none)->H z.p=none->Kd p H H'->(H' r.bd=some (.dK [])/\r.bd∉EF r z []/\H r.bd=none)->Q .non H'):i8 A vs H Q E
def j8 (A:RC):Sp:=i8 A
theorem zh (T:fD K mg A):XE P w K mg base "Rooms" A.Ab 3 ["self","shape","most"] [] (j8 A):=by
 have Ij:=@jh P w K mg base A T;refine T.He.have cg (λvs H Q E z=>?_) ?_
 ·obtain⟨p,dx,sh,most,l,f,g,rfl,_⟩:=z;rfl
 ·intro f cdv A' outer s H vs Q E hr z;obtain⟨p,dx,sh,most,l,f',g,rfl,hp,hsh,hg,q⟩:=z;refine⟨_,(CC (xF (eC 0) (eC 1) rfl)
   (CC (xF (eC 0) (eC 2) rfl)
   (CC (xF (eC 0) (jR Ij (hr.mono (by decide)) GC (iC (eC 1) rC)) rfl)
   (CC (xF (eC 0) JI rfl)
   (CC (xF (eC 0) JI rfl)
   (CC (xF (eC 0) yC rfl)
   (CC (xF (eC 0) JI rfl)
   (FC (xF (eC 0) JI rfl))))))))),?_⟩
  unfold R7;rfl';refine⟨_,dx,_,hp,T.Ac,T.Cb,by show 0 < 1000;decide,T.Ac,T.Cr,by show 1 < 1000;decide,?_⟩;have hp0:jC H p (.ins A.Ab dx (nC "most" (.int most) (nC "shape" (.ref sh) []))) p=some (.ins A.Ab dx (nC "most" (.int most) (nC "shape" (.ref sh) []))):=IC;have k0:Kd p H (jC H p (.ins A.Ab dx (nC "most" (.int most) (nC "shape" (.ref sh) [])))):=sE;have n0:=WI k0 hp0;generalize jC H p (.ins A.Ab dx (nC "most" (.int most) (nC "shape" (.ref sh) [])))=G0 at *;intro x1 dx1 hx1 hdx1 hne1 td bd H1 htd hbd hn1 k1 a1 a2 a3;have s1:uC G0 (jC (jC G0 dx1 (.own x1)) x1 (.ins A.Ad dx1 [])):=λc o h=>by rw[vC (bD h hx1),vC (bD h hdx1)];exact h
  have px:p≠x1:=bD hp0 hx1;have hx1n:=n0 _ hx1;have htd0:=n0 _ (VF s1 htd);have hbd0:=n0 _ (VF s1 hbd);generalize jC (jC G0 dx1 (.own x1)) x1 (.ins A.Ad dx1 [])=G1 at *;have hp1:=k1 _ _ (s1 _ _ hp0) px;have k01:Kd p H H1:=λc o h hn=>k1 _ _ (s1 _ _ (k0 _ _ h hn)) (bD h hx1n);have n1:=WI k01 hp1;refine⟨_,dx,_,hp1,T.Ac,T.Ap,by show 2 < 1000;decide,?_⟩;have st2:=SL hp1 k01 (o:=.ins A.Ab dx (nC "house" (.ref x1) (nC "most" (.int most) (nC "shape" (.ref sh) []))));generalize jC H1 p (.ins A.Ab dx (nC "house" (.ref x1) (nC "most" (.int most) (nC "shape" (.ref sh) []))))=G2 at *;have e2x:=st2.2.2 _ _ a1 px.symm;have e2t:=st2.2.2 _ _ a2 (LC a2 hp1 (λz=>nomatch z));have e2b:=st2.2.2 _ _ a3 (LC a3 hp1 (λz=>nomatch z));intro p1 hp1';have st3:=wQ st2.1 st2.2.1 hp1' (o:=.ins A.Ab dx (nC "sheets" (.ref p1) (nC "house" (.ref x1) (nC "most" (.int most) (nC "shape" (.ref sh) [])))));refine⟨_,dx,_,st3.2.2.2.2.2,T.Ac,T.Ai,by show 3 < 1000;decide,?_⟩;generalize jC (jC G2 p1 (.dK [])) p (.ins A.Ab dx (nC "sheets" (.ref p1) (nC "house" (.ref x1) (nC "most" (.int most) (nC "shape" (.ref sh) [])))))=G3 at *;intro p2 hp2;have st4:=wQ st3.1 st3.2.1 hp2 (o:=.ins A.Ab dx (nC "made" (.int 0) (nC "havers" (.ref p2) (nC "sheets" (.ref p1) (nC "house" (.ref x1) (nC "most" (.int most) (nC "shape" (.ref sh) [])))))));refine⟨_,dx,_,st4.2.2.2.2.2,T.Ac,T.Aj,by show 4 < 1000;decide,T.Ac,T.Bq,by show 5 < 1000;decide,?_⟩;generalize jC (jC G3 p2 (.dK [])) p (.ins A.Ab dx (nC "made" (.int 0) (nC "havers" (.ref p2) (nC "sheets" (.ref p1) (nC "house" (.ref x1) (nC "most" (.int most) (nC "shape" (.ref sh) [])))))))=G4 at *;intro p3 hp3;have st5:=wQ st4.1 st4.2.1 hp3 (o:=.ins A.Ab dx (nC "private" (.ref p3) (nC "made" (.int 0) (nC "havers" (.ref p2) (nC "sheets" (.ref p1) (nC "house" (.ref x1) (nC "most" (.int most) (nC "shape" (.ref sh) []))))))));refine⟨_,dx,_,st5.2.2.2.2.2,T.Ac,T.Al,by show 6 < 1000;decide,?_⟩;generalize jC (jC G4 p3 (.dK [])) p (.ins A.Ab dx (nC "private" (.ref p3) (nC "made" (.int 0) (nC "havers" (.ref p2) (nC "sheets" (.ref p1) (nC "house" (.ref x1) (nC "most" (.int most) (nC "shape" (.ref sh) []))))))))=G5 at *;intro p4 hp4;have st6:=wQ st5.1 st5.2.1 hp4 (o:=.ins A.Ab dx (nC "banked" (.ref p4) (nC "private" (.ref p3) (nC "made" (.int 0) (nC "havers" (.ref p2) (nC "sheets" (.ref p1) (nC "house" (.ref x1) (nC "most" (.int most) (nC "shape" (.ref sh) [])))))))));refine⟨_,dx,_,st6.2.2.2.2.2,T.Ac,T.A8,by show 7 < 1000;decide,?_⟩;generalize jC (jC G5 p4 (.dK [])) p (.ins A.Ab dx (nC "banked" (.ref p4) (nC "private" (.ref p3) (nC "made" (.int 0) (nC "havers" (.ref p2) (nC "sheets" (.ref p1) (nC "house" (.ref x1) (nC "most" (.int most) (nC "shape" (.ref sh) [])))))))))=G6 at *;have nsh:sh≠p:=by
   obtain⟨dxs,es⟩:=id hsh;intro e;rw[e,hp] at es;have z:=(HO.ins.inj (rA es)).2.2;have w:=oQ (l:=l) (f:=f') (g:=g);rw[<-z] at w;cases w
  obtain⟨dxs,es⟩:=id hsh;have kdk:∀{c:Addr},c≠p->∀{o},G2 c=some o->G6 c=some o:=λhn ο h=>st6.2.2.1 _ _ (st5.2.2.1 _ _ (st4.2.2.1 _ _ (st3.2.2.1 _ _ h hn) hn) hn) hn;have ne1:p1≠p:=LC st3.2.2.2.1 st3.1 (λz=>nomatch z);have ne2:p2≠p:=LC st4.2.2.2.1 st4.1 (λz=>nomatch z);have ne3:p3≠p:=LC st5.2.2.2.1 st5.1 (λz=>nomatch z);have q1:=st5.2.2.1 _ _ (st4.2.2.1 _ _ st3.2.2.2.1 ne1) ne1;have q2:=st5.2.2.1 _ _ st4.2.2.2.1 ne2;have q3:=st5.2.2.2.1;have t3:=st3.2.2.1 _ _ e2t (LC e2t st2.1 (λz=>nomatch z));have b3:=st3.2.2.1 _ _ e2b (LC e2b st2.1 (λz=>nomatch z));have t4:=st4.2.2.1 _ _ t3 (LC t3 st3.1 (λz=>nomatch z));have b4:=st4.2.2.1 _ _ b3 (LC b3 st3.1 (λz=>nomatch z));have t5:=st5.2.2.1 _ _ t4 (LC t4 st4.1 (λz=>nomatch z));have b5:=st5.2.2.1 _ _ b4 (LC b4 st4.1 (λz=>nomatch z));have q41:=st4.2.2.1 _ _ st3.2.2.2.1 ne1;refine q ⟨p,sh,x1,p1,p2,p3,p4,most⟩ ⟨x1,sh,td,bd⟩ G6 rfl rfl ⟨⟨⟨dx,st6.1⟩,st6.2.2.1 _ _ q1 ne1,st6.2.2.1 _ _ q2 ne2,λs hs=>by simp at hs,.nil,.nil,λs hs=>by simp at hs,?_⟩,⟨⟨dx1,kdk px.symm e2x⟩,⟨dxs,st6.2.1 _ _ es nsh⟩,st6.2.2.1 _ _ t5 (LC t5 st5.1 (λz=>nomatch z)),st6.2.2.1 _ _ b5 (LC b5 st5.1 (λz=>nomatch z)),λt ht=>by simp at ht,.nil,.nil,λkv hkv=>by simp at hkv,hn1,λt ht=>by simp at ht⟩,hg,rfl,rfl,st6.2.2.1 _ _ q3 ne3,λe he=>by simp at he,rfl,?_⟩ ?_ hx1n st6.2.1 ⟨st6.2.2.2.1,?_,st6.2.2.2.2.1⟩
  ·exact bD st3.2.2.2.1 hp2
  ·have d12:p1≠p2:=bD st3.2.2.2.1 hp2;have d13:p1≠p3:=bD q41 hp3;have d14:p1≠p4:=bD q1 hp4;have d23:p2≠p3:=bD st4.2.2.2.1 hp3;have d24:p2≠p4:=bD q2 hp4;have d34:p3≠p4:=bD q3 hp4;have t1:td≠p1:=bD e2t hp1';have t2:td≠p2:=bD t3 hp2;have t3':td≠p3:=bD t4 hp3;have t4':td≠p4:=bD t5 hp4;have u1:bd≠p1:=bD e2b hp1';have u2:bd≠p2:=bD b3 hp2;have u3:bd≠p3:=bD b4 hp3;have u4:bd≠p4:=bD b5 hp4;show [p1,p2,p3,td,bd].Nodup;simp only[OA,vA,fB,or_false,not_or,List.nodup_nil,and_true,not_false_eq_true];exact⟨⟨d12,d13,t1.symm,u1.symm⟩,⟨d23,t2.symm,u2.symm⟩,⟨t3'.symm,u3.symm⟩,hn1⟩
  ·intro c hc;have hc:c∈[p1,p2,p3,td,bd]:=hc;simp only[vA,fB,or_false] at hc;rcases hc with rfl|rfl|rfl|rfl|rfl
   ·exact st3.2.2.2.2.1
   ·exact st4.2.2.2.2.1
   ·exact st5.2.2.2.2.1
   ·exact htd0
   ·exact hbd0
  ·show p4∉[p1,p2,p3,td,bd];simp only[vA,fB,or_false,not_or];exact⟨(bD q1 hp4).symm,(bD q2 hp4).symm,(bD q3 hp4).symm,(bD t5 hp4).symm,(bD b5 hp4).symm⟩
inductive l8 (A:RC) (vs:List V) (H:Hp) (Q:VK) (E:XK):Prop where
 |mk (r:Ro) (z:Hz) (l f g:Int) (tks:List Tk) (pv:List Pv) (_:vs=[.ref r.p]) (_:RB A H r z l f g tks pv) (_:tks.length < 1000) (_:∀(k:Nat) (p d:Addr) (H':Hp),UH (zD (KD tks)) k->RB A H' r z l f g (tks++[⟨k,p,[]⟩]) (pv++[⟨k,d,[]⟩])->H p=none->H d=none->(∀c o,H c=some o->c≠r.pd->c≠z.td->H' c=some o)->Q (.int k) H'):l8 A vs H Q E
def TL (A:RC):Sp:=l8 A
theorem JO (T:fD K mg A):AC P w K mg base A.Ab "new_task" 4 ["self"] [] (TL A):=by
 have Ez:=@aU P w K mg base A T;refine T.Ej.have N6 (λvs H Q E z=>?_) ?_
 ·obtain⟨r,z,l,f,g,tks,pv,rfl,_⟩:=z;rfl
 ·intro f cdv A' outer s H vs Q E hr z;obtain⟨r,z,l,f',g,tks,pv,rfl,hR,hl,q⟩:=z;obtain⟨dx,h1⟩:=hR.s.me;obtain⟨dxh,h2⟩:=hR.h.me;refine⟨_,(CC (iD (i:=1) N6.nd rfl (Or.inl rfl) (mI (cD (eC 0) rfl) T.Ag Ez (hr.mono (by decide)) GC))
   (CC (QF (dD hr) (cD (eC 0) rfl) (eC 1) JI rfl)
   (FC (uD (eC 1))))),?_⟩
  unfold XJ ND;rfl';simp only[h1];rfl';refine⟨T.Ac,T.Ap,_,bK,r.ho,rfl,dxh,_,by rw[hR.ho];exact h2,DF ∅,z,by rw[hR.ho],l,f',g,tks,[],hR.h,hl,λk p H1 hL hS1 hp0 hK d hd=>?_⟩;have D:=FO hR.nd;have hz:=PySem.sizeLine_eq;have hd0:H d=none:=WI hK hS1.t d hd;have s2:=bE (o:=.dK []) (LD (H:=H1)) hd;have hd2:jC H1 d (.dK []) d=some (.dK []):=IC;have hS2:=hS1.same s2;have hSh1:ID A H1 r 0 []:=hR.s.kd hR.h.t D.st.symm D.ht.symm hK;have hSh2:=hSh1.same s2;have hpd2:=s2 _ _ (hK _ _ hR.pd D.pt);have hpe2:∀e∈pv,jC H1 d (.dK []) e.d=some (.dK []):=λe he=>s2 _ _ (hK _ _ (hR.pe e he).2 (D.e e he).2.2.2.1);generalize jC H1 d (.dK [])=H2 at *;obtain⟨dx2,e2⟩:=hSh2.me;have hkl:(qG pv).length=tks.length:=by unfold qG;rw[cA,<-cA (f:=Pv.n),hR.nm,cA]
  have hkn:(Sum.inl (k:Int):Key)∉zD (qG pv):=by rw[GO hR.nm];exact hL.1
  have ndp:d≠r.pd:=λe=>by rw[e,hR.pd] at hd0;cases hd0
  refine⟨_,dx2,_,e2,T.Ac,T.Al,_,UI,r.pd,rfl,_,.inl ⟨qG pv,Sum.inl k,hpd2,rfl,⋯,rfl⟩,?_⟩;rw[HL hkn];have eD:qG pv++[(Sum.inl (k:Int),V.ref d)]=qG (pv++[⟨k,d,[]⟩]):=by unfold qG;rw[gA];rfl
  rw[eD];have k3:Kd r.pd H2 (jC H2 r.pd (.dK (qG (pv++[⟨k,d,[]⟩])))):=sE;refine q k p d _ hL ⟨hSh2.kd hpd2 D.sp.symm D.hp.symm k3,hS2.hk (Hk.refl.kp (U:=(·=r.pd)) ⟨λc o h n=>k3 _ _ h n,WI k3 IC⟩ (λc o e h=>.inl ⟨_,by rw[e,hpd2] at h;exact (rA h).symm,by rw[e];exact D.pt,by rw[e];exact D.pb⟩)),hR.gd,hR.ho,hR.sh,IC,?_,?_,?_⟩ hp0 hd0 (λc o h n1 n2=>k3 _ _ (s2 _ _ (hK _ _ h n2)) n1)
  ·intro e he;rcases dA.mp he with h|h
   ·exact⟨(hR.pe e h).1,k3 _ _ (hpe2 e h) (D.e e h).2.2.1⟩
   ·obtain rfl:=aA.mp h;exact⟨rfl,k3 _ _ hd2 ndp⟩
  ·rw[gA,gA,hR.nm];rfl
  ·have e:EF r z (pv++[⟨k,d,[]⟩])=EF r z pv++[d]:=by unfold EF;rw[gA];rfl
   rw[e,zA];refine⟨hR.nd,OA.mpr ⟨fB,.nil⟩,λa ha b hb=>?_⟩;obtain rfl:=aA.mp hb;intro e;subst e;have ha:a∈r.sd::r.hd::r.pd::z.td::z.bd::pv.map Pv.d:=ha;simp only[vA] at ha;rcases ha with e|e|e|e|e|h
   ·rw[e,hR.s.s] at hd0;cases hd0
   ·rw[e,hR.s.h] at hd0;cases hd0
   ·rw[e,hR.pd] at hd0;cases hd0
   ·rw[e,hR.h.t] at hd0;cases hd0
   ·rw[e,hR.h.b] at hd0;cases hd0
   ·obtain⟨e,he,h⟩:=bA.mp h;rw[<-h,(hR.pe e he).2] at hd0;cases hd0
set_option genInjectivity false in
structure Ho where
 k:Bool
 n:Int
 d:Addr
 m:List (Int×Int)
def FE (es:List Ho):Kvs:=es.map λe=>((Sum.inl e.n:Key),V.ref e.d)
def RE (es:List Ho):List Ho:=es.filter λe=> !e.k
def uF (es:List Ho):List Ho:=es.filter λe=>e.k
def OE (r:Ro) (z:Hz) (es:List Ho):List Addr:=r.sd::r.hd::r.pd::r.bd::z.td::z.bd::es.map Ho.d
def Lo (z:Hz) (c:Addr) (o:HO):Prop:=FF z c o\/(∃i vs,o=.lst (V.int i::vs))\/∃kvs,o=.dT kvs
theorem WD.lo {A:RC} {B H:Hp} {z:Hz} {l f g:Int} {tks:List Tk} {bk:Kvs} (h:WD A B z l f g tks bk) (k:∀c o,B c=some o->H c=some o\/Lo z c o):WD A H z l f g tks bk:=by
 obtain⟨dx,e⟩:=h.me;obtain⟨dxs,es⟩:=id h.sh;have ins:∀{c C dx fs},B c=some (.ins C dx fs)->fs.lookup ("made":Str)=none->H c=some (.ins C dx fs):=λh n=>by
  rcases k _ _ h with e|(⟨_,e,_⟩|⟨_,_,_,e,m⟩)|⟨_,_,e⟩|⟨_,e⟩
  ·exact e
  ·cases e
  ·cases e;exact absurd n m
  ·cases e
  ·cases e
 have tp:∀a xs,B a=some (.tup xs)->H a=some (.tup xs):=λa xs h=>by
  rcases k _ _ h with e|(⟨_,e,_⟩|⟨_,_,_,e,_⟩)|⟨_,_,e⟩|⟨_,e⟩
  ·exact e
  ·cases e
  ·cases e
  ·cases e
  ·cases e
 have run:∀{v:V} {r:Rn},VC B v r->VC H v r:=λ{v r} h=>by
  obtain⟨a,tv,e,h1,h2⟩:=h;refine⟨a,tv,e,tp _ _ h1,?_⟩;cases hT:r.t with
  |none=>rw[hT] at h2;exact h2
  |some t=>rw[hT] at h2;obtain⟨a,e,h⟩:=h2;exact⟨a,e,tp _ _ h⟩
 refine⟨⟨dx,ins e (DF ∅)⟩,⟨dxs,ins es (nI ∅)⟩,?_,?_,λt ht=>?_,h.nd,h.nk,h.vb,h.ne,h.np⟩
 ·rcases k _ _ h.t with e|(⟨_,e,n,_⟩|⟨_,_,_,e,_⟩)|⟨_,_,e⟩|⟨_,e⟩
  ·exact e
  ·exact absurd rfl n
  ·cases e
  ·cases e
  ·cases e
 ·rcases k _ _ h.b with e|(⟨_,e,_,n⟩|⟨_,_,_,e,_⟩)|⟨_,_,e⟩|⟨_,e⟩
  ·exact e
  ·exact absurd rfl n
  ·cases e
  ·cases e
  ·cases e
 ·obtain⟨a,⟨dx2,vs,e1,e2,e3⟩,e4⟩:=h.st t ht;refine⟨a,⟨dx2,vs,ins e1 (cG ∅),?_,VI e3 λv p hp=>run hp⟩,e4⟩;rcases k _ _ e2 with e|(⟨_,e,_⟩|⟨_,_,_,e,_⟩)|⟨i,ws,e⟩|⟨_,e⟩
  ·exact e
  ·cases e
  ·cases e
  ·have e:vs=V.int i::ws:=by injection e
   rw[e] at e3;have key:∀rs:List Rn,¬oC B (V.int i::ws) rs:=λrs h=>by
    cases h with
    |cons q _=>obtain⟨_,_,z,_⟩:=q;cases z
   exact absurd e3 (key _)
  ·cases e
def AE (r:Ro) (z:Hz) (S:List Sh) (es:List Ho) (c:Addr):Prop:=c=r.p\/c∈OE r z es\/∃s∈S,c=s.a
structure RH (A:RC) (B H:Hp) (r:Ro) (z:Hz) (l f g:Int) (tks:List Tk) (bk:Kvs) (made:Int) (S:List Sh) (es:List Ho):Prop where
 h:WD A H z l f g tks bk
 gd:gd l f g
 ho:r.ho=z.p
 sh:r.sh=z.sh
 s:ID A H r made S
 pd:H r.pd=some (.dK (FE (RE es)))
 bd:H r.bd=some (.dK (FE (uF es)))
 pe:∀e∈es,H e.d=some (.dK (mD e.m))
 nm:(RE es).map Ho.n=tks.map Tk.n
 bm:(uF es).map (λe=>(Sum.inl e.n:Key))=zD bk
 bn:((uF es).map Ho.n).Nodup
 nd:(OE r z es).Nodup
 ob:∀c,AE r z S es c->B c=none
 dm:∀c,H c=none->B c=none
 sz:∀s∈S,s.xs.length=(pw g).toNat
 ux:∀e∈es,(e.m.map (·.1)).Nodup
structure Dm (r:Ro) (z:Hz) (es:List Ho):Prop where
 sp:r.sd≠r.pd
 sx:r.sd≠r.bd
 hp:r.hd≠r.pd
 hx:r.hd≠r.bd
 st:r.sd≠z.td
 sb:r.sd≠z.bd
 ht:r.hd≠z.td
 hb:r.hd≠z.bd
 pt:r.pd≠z.td
 pb:r.pd≠z.bd
 px:r.pd≠r.bd
 bt:r.bd≠z.td
 bb:r.bd≠z.bd
 e:∀e∈es,e.d≠r.sd/\e.d≠r.hd/\e.d≠r.pd/\e.d≠r.bd/\e.d≠z.td/\e.d≠z.bd
 nd:(es.map Ho.d).Nodup
theorem UL {r:Ro} {z:Hz} {es:List Ho} (h:(OE r z es).Nodup):Dm r z es:=by
 unfold OE at h;simp only[OA,vA,not_or] at h;obtain⟨⟨a1,a2,a3,a4,a5,a6⟩,⟨b1,b2,b3,b4,b5⟩,⟨c1,c2,c3,c4⟩,⟨d1,d2,d3⟩,⟨e1,e2⟩,f1,g⟩:=h;have mm:∀{e:Ho},e∈es->e.d∈es.map Ho.d:=λhe=>bA.mpr ⟨_,he,rfl⟩;exact⟨a2,a3,b1,b2,a4,a5,b3,b4,c2,c3,c1,d1,d2,λe he=>⟨λz=>a6 (by rw[<-z];exact mm he),λz=>b5 (by rw[<-z];exact mm he),λz=>c4 (by rw[<-z];exact mm he),λz=>d3 (by rw[<-z];exact mm he),λz=>e2 (by rw[<-z];exact mm he),λz=>f1 (by rw[<-z];exact mm he)⟩,g⟩
theorem RH.same {A:RC} {B H H':Hp} {r:Ro} {z:Hz} {l f g:Int} {tks:List Tk} {bk:Kvs} {made:Int} {S:List Sh} {es:List Ho} (h:RH A B H r z l f g tks bk made S es) (s:uC H H'):RH A B H' r z l f g tks bk made S es:=
 ⟨h.h.same s,h.gd,h.ho,h.sh,h.s.same s,s _ _ h.pd,s _ _ h.bd,λe he=>s _ _ (h.pe e he),h.nm,h.bm,h.bn,h.nd,h.ob,λc hc=>h.dm c (VF s hc),h.sz,h.ux⟩
def WC (k:Bool) (n:Int) (m:List (Int×Int)) (es:List Ho):List Ho:=es.map λe=>if e.k=k/\e.n=n then {e with m:=m} else e
theorem jU {k:Bool} {n:Int} {m:List (Int×Int)} {es:List Ho}:(WC k n m es).map Ho.d=es.map Ho.d:=by
 unfold WC;rw[lA];refine DA λe ο=>?_;show (if e.k=k/\e.n=n then _ else e:Ho).d=e.d
 split<;>rfl
theorem NM {k:Bool} {n:Int} {m:List (Int×Int)} {α:Type} {p:Bool->Bool} {f:Ho->α} (hf:∀(e:Ho) m,f {e with m:=m}=f e):∀{es:List Ho},((WC k n m es).filter λe=>p e.k).map f=(es.filter λe=>p e.k).map f
 |[]=>rfl
 |e::es=>by
  have ih:=NM (k:=k) (n:=n) (m:=m) (p:=p) hf (es:=es);have e1:WC k n m (e::es)=(if e.k=k/\e.n=n then {e with m:=m} else e)::WC k n m es:=rfl;rw[e1];have hk:(if e.k=k/\e.n=n then {e with m:=m} else e:Ho).k=e.k:=by split<;>rfl
  have hv:f (if e.k=k/\e.n=n then {e with m:=m} else e:Ho)=f e:=by
   split
   ·exact hf e m
   ·rfl
  cases c:p e.k with
  |true=>rw[wB (by rw[hk];exact c),wB (p:=λe:Ho=>p e.k) (a:=e) c,yA,yA,hv,ih]
  |false=>rw[vB (by rw[hk,c];exact wA),vB (p:=λe:Ho=>p e.k) (a:=e) (by rw[c];exact wA),ih]
theorem RH.sb {A:RC} {B H:Hp} {r:Ro} {z:Hz} {l f g:Int} {tks:List Tk} {bk:Kvs} {made:Int} {S:List Sh} {es:List Ho} (h:RH A B H r z l f g tks bk made S es):∀s∈S,B s.a=none:=λs hs=>h.ob _ (.inr (.inr ⟨s,hs,rfl⟩))
theorem RH.one {A:RC} {B H:Hp} {r:Ro} {z:Hz} {l f g:Int} {tks:List Tk} {bk:Kvs} {made:Int} {S:List Sh} {es:List Ho} (h:RH A B H r z l f g tks bk made S es) {e e':Ho} (he:e∈es) (he':e'∈es) (hk:e.k=e'.k) (hn:e.n=e'.n):e=e':=by
 cases c:e.k with
 |true=>exact cE h.bn (AA.mpr ⟨he,c⟩) (AA.mpr ⟨he',by rw[<-hk];exact c⟩) hn
 |false=>
  have nn:((RE es).map Ho.n).Nodup:=by rw[h.nm];exact h.h.nk
  exact cE nn (AA.mpr ⟨he,by rw[c];rfl⟩) (AA.mpr ⟨he',by rw[<-hk,c];rfl⟩) hn
theorem RH.loS {A:RC} {B H:Hp} {r:Ro} {z:Hz} {l f g:Int} {tks:List Tk} {bk:Kvs} {made:Int} {S:List Sh} {es:List Ho} (h:RH A B H r z l f g tks bk made S es) {s:Sh} {o:HO} (hs:s∈S) (e:H s.a=some o):∃i vs,o=.lst (V.int i::vs):=by
 rw[h.s.x s hs] at e;have hg:=oI h.gd;have hl:=h.sz s hs;cases hx:s.xs with
 |nil=>rw[hx] at hl;simp at hl;omega
 |cons i ys=>rw[hx] at e;exact⟨i,_,(rA e).symm⟩
def Fb (S:List Sh) (r:Ro) (es:List Ho) (H H':Hp):Prop:=∀c o,H c=some o->c≠r.p->c≠r.sd->c≠r.hd->c∉es.map Ho.d->(∀s∈S,c≠s.a)->H' c=some o
theorem RH.put {A:RC} {B H H':Hp} {r:Ro} {z:Hz} {l f g:Int} {tks:List Tk} {bk:Kvs} {made made':Int} {S S':List Sh} {es:List Ho} {e:Ho} {m:List (Int×Int)}
  (h:RH A B H r z l f g tks bk made S es) (he:e∈es) (hS:ID A H' r made' S') (hs:∀s∈S',B s.a=none/\s.xs.length=(pw g).toNat) (hd:H' e.d=some (.dK (mD m))) (hm:(m.map (·.1)).Nodup)
  (k:∀c o,H c=some o->c≠e.d->c≠r.p->c≠r.sd->c≠r.hd->(∀s∈S,c≠s.a)->H' c=some o):
  RH A B H' r z l f g tks bk made' S' (WC e.k e.n m es)/\Fb S r es H H':=by
 have D:=UL h.nd;have De:=D.e e he;obtain⟨dx,h1⟩:=h.s.me;obtain⟨dx',h1'⟩:=hS.me;have ns:∀{c:Addr} {kv:Kvs},H c=some (.dK kv)->∀s∈S,c≠s.a:=λhc s hs z=>by rw[z,h.s.x s hs] at hc;cases hc
 have hh:WD A H' z l f g tks bk:=h.h.lo λc o e0=>by
  by_cases n1:c=e.d
  ·subst n1;rw[h.pe e he] at e0;exact .inr (.inl (.inl ⟨_,(rA e0).symm,De.2.2.2.2.1,De.2.2.2.2.2⟩))
  ·by_cases n2:c=r.p
   ·subst n2;rw[h1] at e0;exact .inr (.inl (.inr ⟨_,_,_,(rA e0).symm,by rw[uQ];exact λz=>nomatch z⟩))
   ·by_cases n3:c=r.sd
    ·subst n3;rw[h.s.s] at e0;exact .inr (.inl (.inl ⟨_,(rA e0).symm,D.st,D.sb⟩))
    ·by_cases n4:c=r.hd
     ·subst n4;rw[h.s.h] at e0;exact .inr (.inl (.inl ⟨_,(rA e0).symm,D.ht,D.hb⟩))
     ·by_cases n5:∃s∈S,c=s.a
      ·obtain⟨s,hs,rfl⟩:=n5;exact .inr (.inr (.inl (h.loS hs e0)))
      ·exact .inl (k c o e0 n1 n2 n3 n4 λs hs z=>n5 ⟨s,hs,z⟩)
 have hpd:=k _ _ h.pd De.2.2.1.symm (LC h.pd h1 (λz=>nomatch z)) D.sp.symm D.hp.symm (ns h.pd);have hbd:=k _ _ h.bd De.2.2.2.1.symm (LC h.bd h1 (λz=>nomatch z)) D.sx.symm D.hx.symm (ns h.bd);refine⟨⟨hh,h.gd,h.ho,h.sh,hS,?_,?_,λe' he'=>?_,?_,?_,?_,by unfold OE;rw[jU];exact h.nd,λc hc=>?_,λc hc=>?_,λs hs'=>(hs s hs').2,λe' he'=>?_⟩,λc o h0 n1 n2 n3 n4 n5=>k c o h0 (λz=>n4 (by rw[z];exact bA.mpr ⟨e,he,rfl⟩)) n1 n2 n3 n5⟩
 ·rw[hpd];exact congrArg (λz=>some (HO.dK z)) (NM (p:=λb=> !b) (f:=λe:Ho=>((Sum.inl e.n:Key),V.ref e.d)) (λο ο=>rfl)).symm
 ·rw[hbd];exact congrArg (λz=>some (HO.dK z)) (NM (p:=λb=>b) (f:=λe:Ho=>((Sum.inl e.n:Key),V.ref e.d)) (λο ο=>rfl)).symm
 ·obtain⟨u,hu,rfl⟩:=bA.mp he';by_cases c:u.k=e.k/\u.n=e.n
  ·rw[iA c];obtain rfl:=h.one hu he c.1 c.2;exact hd
  ·rw[fA c];have hn:u.d≠e.d:=λz=>c (by rw[cE D.nd hu he z];exact⟨rfl,rfl⟩);exact k _ _ (h.pe u hu) hn (LC (h.pe u hu) h1 (λz=>nomatch z)) (D.e u hu).1 (D.e u hu).2.1 (ns (h.pe u hu))
 ·rw[<-h.nm];exact NM (p:=λb=> !b) (f:=Ho.n) (λο ο=>rfl)
 ·rw[<-h.bm];exact NM (p:=λb=>b) (f:=λe:Ho=>(Sum.inl e.n:Key)) (λο ο=>rfl)
 ·rw[show (uF (WC e.k e.n m es)).map Ho.n=(uF es).map Ho.n from NM (p:=λb=>b) (f:=Ho.n) (λο ο=>rfl)];exact h.bn
 ·rcases hc with rfl|hc|⟨s,hs',rfl⟩
  ·exact h.ob _ (.inl rfl)
  ·unfold OE at hc;rw[jU] at hc;exact h.ob _ (.inr (.inl hc))
  ·exact (hs s hs').1
 ·by_cases own:AE r z S es c
  ·exact h.ob c own
  ·cases e1:H c with
   |none=>exact h.dm c e1
   |some o1=>
    have n1:c≠e.d:=λq=>own (.inr (.inl (by unfold OE;simp only[vA];exact .inr (.inr (.inr (.inr (.inr (.inr (bA.mpr ⟨e,he,q.symm⟩)))))))));have n2:c≠r.p:=λq=>own (.inl q);have n3:c≠r.sd:=λq=>own (.inr (.inl (by unfold OE;rw[q];exact qA ..)));have n4:c≠r.hd:=λq=>own (.inr (.inl (by unfold OE;rw[q];exact xA _ (qA ..))));rw[k c o1 e1 n1 n2 n3 n4 λs hs q=>own (.inr (.inr ⟨s,hs,q⟩))] at hc;cases hc
 ·obtain⟨u,hu,rfl⟩:=bA.mp he';by_cases c:u.k=e.k/\u.n=e.n
  ·rw[iA c];exact hm
  ·rw[fA c];exact h.ux u hu
theorem o8 (m:List (Int×Int)) (x:Int):(∃k,(x,k)∈m/\gC (mD m) (Sum.inl x)=some (.int k))\/((∀y∈m,y.1≠x)/\gC (mD m) (Sum.inl x)=none):=by
 induction m with
 |nil=>exact .inr ⟨λy h=>by simp at h,rfl⟩
 |cons u r ih=>
  by_cases c:u.1=x
  ·refine .inl ⟨u.2,by rw[<-c];exact qA .., ?_⟩;show gC ((Sum.inl u.1,V.int u.2)::mD r) (Sum.inl x)=_;exact pG (by rw[c])
  ·have e:gC (mD (u::r)) (Sum.inl x)=gC (mD r) (Sum.inl x):=by
    show gC ((Sum.inl u.1,V.int u.2)::mD r) (Sum.inl x)=_;exact fG (λz=>c (YA z))
   rw[e];rcases ih with ⟨k,h1,h2⟩|⟨h1,h2⟩
   ·exact .inl ⟨k,xA _ h1,h2⟩
   ·exact .inr ⟨λy hy=>(vA.mp hy).elim (λz=>by rw[z];exact c) (h1 y),h2⟩
theorem VL {pv:List Pv} {e:Pv} (nn:(pv.map Pv.n).Nodup) (he:e∈pv):gC (qG pv) (Sum.inl e.n)=some (.ref e.d):=by
 induction pv with
 |nil=>simp at he
 |cons u r ih=>
  rw[yA,OA] at nn;show gC ((Sum.inl u.n,V.ref u.d)::qG r) (Sum.inl e.n)=_;rcases vA.mp he with rfl|h
  ·exact pG rfl
  ·rw[fG (λz=>nn.1 (by rw[show u.n=e.n from YA z];exact bA.mpr ⟨e,h,rfl⟩))];exact ih nn.2 h
theorem p8 {es:List Ho} {e:Ho} (nn:(es.map Ho.n).Nodup) (he:e∈es):gC (FE es) (Sum.inl e.n)=some (.ref e.d):=by
 have:=VL (pv:=es.map λe=>(⟨e.n,e.d,e.m⟩:Pv)) (e:=⟨e.n,e.d,e.m⟩) (by rw[lA];exact nn) (bA.mpr ⟨e,he,rfl⟩);unfold qG at this;rw[lA] at this;exact this
theorem RH.pv {A:RC} {B H:Hp} {r:Ro} {z:Hz} {l f g:Int} {tks:List Tk} {bk:Kvs} {made:Int} {S:List Sh} {es:List Ho} (h:RH A B H r z l f g tks bk made S es) {t:Tk} (ht:t∈tks):∃e∈es,e.k=false/\e.n=t.n/\gC (FE (RE es)) (Sum.inl t.n)=some (.ref e.d):=by
 have:t.n∈(RE es).map Ho.n:=by rw[h.nm];exact bA.mpr ⟨t,ht,rfl⟩
 obtain⟨e,he,e1⟩:=bA.mp this;obtain⟨he1,he2⟩:=AA.mp he;have nn:((RE es).map Ho.n).Nodup:=by rw[h.nm];exact h.h.nk
 exact⟨e,he1,by simpa using he2,e1,by rw[<-e1];exact p8 nn he⟩
theorem RH.bv {A:RC} {B H:Hp} {r:Ro} {z:Hz} {l f g:Int} {tks:List Tk} {bk:Kvs} {made:Int} {S:List Sh} {es:List Ho} (h:RH A B H r z l f g tks bk made S es) {e:Ho} (he:e∈es) (hk:e.k=true):gC (FE (uF es)) (Sum.inl e.n)=some (.ref e.d):=p8 h.bn (AA.mpr ⟨he,hk⟩)
def EC (t:Tk) (x:Int):Bool×Int×Int:=match (pm t.rs x).bind (·.2) with|none=>(false,t.n,x)|some (b,y)=>(true,b,y)
def mC (e:Ho) (x:Int):Option Int:=(e.m.find? λy=>decide (y.1=x)).map (·.2)
theorem OD {e:Ho} {x k:Int} (nd:(e.m.map (·.1)).Nodup):mC e x=some k↔(x,k)∈e.m:=by
 unfold mC;constructor
 ·intro h;obtain⟨y,hy,rfl⟩:=XA.mp h;have h1:=sB hy;have h2:=WA hy;rw[<-UA h1];exact h2
 ·intro h;cases e1:e.m.find? λy=>decide (y.1=x) with
  |none=>exact absurd (nA (rfl:x=x)) (kB.mp e1 _ h)
  |some y=>
   have h1:=sB e1;have h2:=WA e1;rw[cE nd h2 h (UA h1)]
   rfl
theorem OM {e:Ho} (nd:(e.m.map (·.1)).Nodup) (x:Int):gC (mD e.m) (Sum.inl x)=(mC e x).map V.int:=by
 rcases o8 e.m x with ⟨k,hk,hv⟩|⟨hk,hv⟩
 ·rw[hv,(OD nd).mpr hk]
  rfl
 ·unfold mC;rw[hv,show (e.m.find? λy=>decide (y.1=x))=none from kB.mpr λy hy=>by simpa using hk y hy]
  rfl
def r8 (A : RC) : Sp := λvs H Q E => ∃ (B : Hp) (r : Ro) (z : Hz) (l f g : Int) (tks : List Tk) (bk : Kvs) (made : Int) (S : List Sh) (es : List Ho) (n x : Int) (t : Tk) (e : Ho), vs = [.ref r.p, .int n, .int x] /\ RH A B H r z l f g tks bk made S es /\ t ∈ tks /\ t.n = n /\ e ∈ es /\ e.k = (EC t x).1 /\ e.n = (EC t x).2.1 /\ S.length <= 10000 /\ e.m.length <= 10000 /\
  ((∃ k, mC e (EC t x).2.2 = some k /\ ∀ H', uC H H' -> Q (.int k) H') \/ (mC e (EC t x).2.2 = none /\ (S.length : Int) >= r.most /\ ∀ H', uC H H' -> E (.ref A.Aq) none H') \/
   (mC e (EC t x).2.2 = none /\ (S.length : Int) < r.most /\ ∀ a H', H a = none -> RH A B H' r z l f g tks bk (made + 1) (S ++ [⟨made, a, List.replicate (pw g).toNat 0, 1⟩]) (WC e.k e.n (e.m ++ [((EC t x).2.2, made)]) es) -> Fb S r es H H' -> Q (.int made) H'))
theorem jK (T:fD K mg A):AC P w K mg base A.Ab "sheet_to_read" 8 ["self","task","page"] [] (r8 A):=by
 have Gg:=@BO P w K mg base A T;have Bl:=@CO P w K mg base A T;refine T.Cc.have S6 (λvs H Q E z=>?_) ?_
 ·obtain⟨B,r,z,l,f,g,tks,bk,made,S,es,n,x,t,e,rfl,_⟩:=z;rfl
 ·intro f cdv A' outer s H vs Q E hr z;obtain⟨B,r,z,l,f',g,tks,bk,made,S,es,n,x,t,e,rfl,hR,ht,hn,he,hek,hen,hl,hml,q⟩:=z;obtain⟨dx,h1⟩:=hR.s.me;obtain⟨dxh,h2⟩:=hR.h.me;refine⟨_,(CC (iD (i:=3) S6.nd rfl (Or.inl rfl) (HD (cD (eC 0) rfl) T.Ag Gg (hr.mono (by decide)) GC (iC (eC 1) (iC (eC 2) rC))))
   (CC (hE (pE fI (eC 3) ZF (wC _)) (FC (uD (HD (eC 0) T.Ac Bl (hr.mono (by decide)) GC (iC (VD (dD hr) (cD (eC 0) rfl) (eC 1) (λο ο=>rfl)) (iC (eC 2) rC))))) kE)
   (FC (uD (HD (eC 0) T.Ac Bl (hr.mono (by decide)) GC (iC (VD (dD hr) (cD (eC 0) rfl) (GD fE (eC 3) yC (λο ο=>rfl)) (λο ο=>rfl)) (iC (GD fE (eC 3) yC (λο ο=>rfl)) rC))))))),?_⟩
  unfold X7 f8 pD;rfl';simp only[h1];rfl';refine⟨T.Ac,T.Ap,_,bK,r.ho,rfl,dxh,_,by rw[hR.ho];exact h2,DF ∅,z,by rw[hR.ho],l,f',g,tks,bk,hR.h,.inr ⟨t,ht,hn,λv H1 s1 hv=>?_⟩⟩;have hR1:=hR.same s1;have D:=UL hR.nd;have hshp:=hR1.h.sh;rw[<-hR.sh] at hshp;have nsh:r.sh≠r.p:=λz=>by
   obtain⟨dxs,es⟩:=id hshp;rw[z,s1 _ _ h1] at es;have w:=uQ (sh:=r.sh) (most:=r.most) (ho:=r.ho) (sd:=r.sd) (hd:=r.hd) (made:=made) (pd:=r.pd) (bd:=r.bd);rw[(HO.ins.inj (rA es)).2.2,nI ∅] at w;cases w
  have fin:∀y,(EC t x).2.2=y->(∃n:Int,gC (mD e.m) (Sum.inl y)=some (.int n)/\Q (.int n) H1)\/(gC (mD e.m) (Sum.inl y)=none/\(S.length:Int)>=r.most/\∀H',uC H1 H'->E (.ref A.Aq) none H')\/
    (gC (mD e.m) (Sum.inl y)=none/\(S.length:Int) < r.most/\∀a H',ID A H' r (made+1) (S++[⟨made,a,List.replicate (pw g).toNat 0,1⟩])->H1 a=none->H' e.d=some (.dK (mD e.m++[(Sum.inl y,.int made)]))->(∀c o,H1 c=some o->c≠e.d->c≠r.p->c≠r.sd->c≠r.hd->H' c=some o)->Q (.int made) H'):=λy hy=>by
   rw[hy] at q;rcases q with ⟨k,hk,q⟩|⟨hk,hm,q⟩|⟨hk,hm,q⟩
   ·exact .inl ⟨k,by rw[OM (hR.ux e he),hk];rfl,q _ s1⟩
   ·exact .inr (.inl ⟨by rw[OM (hR.ux e he),hk];rfl,hm,λH' s2=>q _ (s1.trans s2)⟩)
   ·refine .inr (.inr ⟨by rw[OM (hR.ux e he),hk];rfl,hm,λa H2 hS2 ha hd2 k2=>?_⟩);have hnx:y∉e.m.map (·.1):=λz=>by
     obtain⟨u,hu,rfl⟩:=bA.mp z;have:=(OD (hR.ux e he)).mpr hu;rw[hk] at this;cases this
    have hs':∀s∈S++[⟨made,a,List.replicate (pw g).toNat 0,1⟩],B s.a=none/\s.xs.length=(pw g).toNat:=λs hs=>by
     rcases dA.mp hs with h3|h3
     ·exact⟨hR.sb s h3,hR.sz s h3⟩
     ·rw[aA.mp h3];exact⟨hR1.dm a ha,rB⟩
    obtain⟨z1,z2⟩:=hR1.put he hS2 hs' (m:=e.m++[(y,made)]) (by rw[hd2];unfold mD;rw[gA];rfl) (by rw[gA];exact zA.mpr ⟨hR.ux e he,by simp,λa ha b hb z=>hnx (by rw[z,aA.mp hb] at ha;exact ha)⟩) (λc o h n1 n2 n3 n4 ο=>k2 c o h n1 n2 n3 n4);exact q a _ (VF s1 ha) z1 λc o h n1 n2 n3 n4 n5=>z2 c o (s1 _ _ h) n1 n2 n3 n4 n5
  cases hT:(pm t.rs x).bind (·.2) with
  |none=>
   have e1:EC t x=(false,t.n,x):=by unfold EC;rw[hT]
   rw[hT] at hv;obtain rfl:v=.non:=hv;rw[iA rfl];obtain⟨e',he',k1,k2,k3⟩:=hR.pv ht;obtain rfl:e'=e:=hR.one he' he (by rw[k1,hek,e1]) (by rw[k2,hen,e1]);rw[hn] at k3;exact⟨dx,_,s1 _ _ h1,QE ∅,_,dx,_,s1 _ _ h1,T.Ac,T.Al,_,UI,r.pd,rfl,_,.inl ⟨_,Sum.inl n,.inl hR1.pd,rfl,k3.symm⟩,r,rfl,made,S,l,f',g,e'.d,rfl,hR1.s,⋯,hshp,hR.gd,nsh,mD e'.m,hR1.pe e' he,by unfold mD;rw[cA];omega,(D.e e' he).1,(D.e e' he).2.1,fin x (by rw[e1])⟩
  |some by'=>
   obtain⟨b,y⟩:=by';have e1:EC t x=(true,b,y):=by unfold EC;rw[hT]
   rw[hT] at hv;obtain⟨ta,rfl,hta⟩:=hv;rw[fA (λz=>nomatch z)];have k3:=hR.bv he (by rw[hek,e1]);rw[hen,e1] at k3;exact⟨dx,_,s1 _ _ h1,QE ∅,_,dx,_,s1 _ _ h1,T.Ac,T.A8,_,fU,ta,rfl,_,ZC.of hta,_,FI (j:=0) rfl,r.bd,rfl,_,.inl ⟨_,Sum.inl b,.inl hR1.bd,rfl,k3.symm⟩,ta,rfl,_,ZC.of hta,_,FI (j:=1) rfl,r,rfl,made,S,l,f',g,e.d,rfl,mD e.m,y,rfl,hR1.s,⋯,hshp,hR.gd,nsh,hR1.pe e he,by unfold mD;rw[cA];omega,(D.e e he).1,(D.e e he).2.1,fin y (by rw[e1])⟩
theorem t8 {m:List (Int×Int)} {x:Int}:JD (mD m) (Sum.inl x)=mD (m.filter λy=>decide (y.1≠x)):=by
 unfold JD mD;rw[List.filter_map];refine congrArg _ (List.filter_congr λy ο=>?_);show decide ((Sum.inl y.1:Key)≠Sum.inl x)=decide (y.1≠x);rw[eB];simp only[SA];exact⟨λz e=>z (by rw[e]),λz e=>z (YA e)⟩
theorem u8 {m:List (Int×Int)} {x:Int}:gC (mD (m.filter λy=>decide (y.1≠x))) (Sum.inl x)=none:=by
 rcases o8 (m.filter λy=>decide (y.1≠x)) x with ⟨k,hk,_⟩|⟨_,hv⟩
 ·exact absurd rfl (UA (AA.mp hk).2)
 ·exact hv
def kK (A : RC) (H : Hp) (Q : VK) (E : XK) (B : Hp) (r : Ro) (z : Hz) (l f g : Int) (tks : List Tk) (bk : Kvs) (made : Int) (S : List Sh) (es : List Ho) (x : Int) (t : Tk) (e : Ho) : Prop :=
  e ∈ es /\ e.k = (EC t x).1 /\ e.n = (EC t x).2.1 /\ S.length <= 10000 /\ e.m.length <= 10000 /\
  ((∃ k, mC e (EC t x).2.2 = some k /\ ∀ H', uC H H' -> Q (.int k) H') \/ (mC e (EC t x).2.2 = none /\ (S.length : Int) >= r.most /\ ∀ H', uC H H' -> E (.ref A.Aq) none H') \/
   (mC e (EC t x).2.2 = none /\ (S.length : Int) < r.most /\ ∀ a H', H a = none -> RH A B H' r z l f g tks bk (made + 1) (S ++ [⟨made, a, List.replicate (pw g).toNat 0, 1⟩]) (WC e.k e.n (e.m ++ [((EC t x).2.2, made)]) es) -> Fb S r es H H' -> Q (.int made) H'))
inductive v8 (A:RC) (vs:List V) (H:Hp) (Q:VK) (E:XK):Prop where
 |mk (B:Hp) (r:Ro) (z:Hz) (l f g:Int) (tks:List Tk) (bk:Kvs) (made:Int) (S:List Sh) (es:List Ho) (n x:Int) (t:Tk) (p:Ho) (_:vs=[.ref r.p,.int n,.int x]) (_:RH A B H r z l f g tks bk made S es) (_:t∈tks) (_:t.n=n) (_:p∈es) (_:p.k=false) (_:p.n=n) (_:p.m.length<=10000) (_:(((∀k,mC p x=some k->∃s∈S,s.n=k/\s.h<=1)/\∃e,kK A H Q E B r z l f g tks bk made S es x t e)\/∃s∈S,mC p x=some s.n/\1 < s.h/\S.length < 10000/\(((S.length:Int)>=r.most/\E (.ref A.Aq) none H)\/((S.length:Int) < r.most/\(pm t.rs x).bind (·.2)=none/\∀a H',H a=none->RH A B H' r z l f g tks bk (made+1) (YC s.n (S++[⟨made,a,s.xs,1⟩])) (WC false n ((p.m.filter λy=>decide (y.1≠x))++[(x,made)]) es)->Fb S r es H H'->Q (.int made) H')))):v8 A vs H Q E
def WL (A:RC):Sp:=v8 A
theorem KO (T:fD K mg A):AC P w K mg base A.Ab "sheet_to_write" 9 ["self","task","page"] [] (WL A):=by
 have A2:=@jK P w K mg base A T;have Bd:=@cK P w K mg base A T;have A6:=@fK P w K mg base A T;refine T.B3.have XS (λvs H Q E z=>?_) ?_
 ·obtain⟨B,r,z,l,f,g,tks,bk,made,S,es,n,x,t,p,rfl,_⟩:=z;rfl
 ·intro f cdv A' outer s H vs Q E hr z;obtain⟨B,r,z,l,f',g,tks,bk,made,S,es,n,x,t,p,rfl,hR,ht,hn,hp,hpk,hpn,hpl,q⟩:=z;obtain⟨dx,h1⟩:=hR.s.me;obtain⟨p',hp',k1,k2,hpv⟩:=hR.pv ht;obtain rfl:p'=p:=hR.one hp' hp (by rw[k1,hpk]) (by rw[k2,hpn,hn]);rw[hn] at hpv;have D:=UL hR.nd;have hval:=λx=>OM (hR.ux p' hp) x;have hz:=PySem.sizeLine_eq;refine⟨_,(CC (iD (i:=3) XS.nd rfl (Or.inl rfl) (VD (dD hr) (cD (eC 0) rfl) (eC 1) (λο ο=>rfl)))
   (CC (hE (PW.pt (KP (bJ (dR (dD hr) (eC 2) (eC 3))) (JP (pE IK (VD (dD hr) (cD (eC 0) rfl) (VD (dD hr) (eC 3) (eC 2) (λο ο=>rfl)) (λο ο=>rfl)) yC (wC _))))) (CC (iD (i:=4) XS.nd rfl (Or.inl rfl) (HD (eC 0) T.Ac Bd (hr.mono (by decide)) GC (iC (VD (dD hr) (cD (eC 0) rfl) (VD (dD hr) (eC 3) (eC 2) (λο ο=>rfl)) (λο ο=>rfl)) rC)))
   (CC (GE (HD (eC 0) T.Ac A6 (hr.mono (by decide)) GC (iC (eC 3) (iC (eC 2) rC))))
   (FC (QF (dD hr) (eC 3) (eC 2) (eC 4) rfl)))) kE)
   (FC (uD (HD (eC 0) T.Ac A2 (hr.mono (by decide)) GC (iC (eC 1) (iC (eC 2) rC))))))),?_⟩
  unfold pD II ND;rfl';simp only[h1];rfl';refine⟨T.Ac,T.Al,_,UI,r.pd,rfl,_,.inl ⟨_,Sum.inl n,.inl hR.pd,rfl,hpv.symm⟩,p'.d,rfl,?_⟩;have hpe:=hR.pe p' hp;have goOn:(∃e,kK A H Q E B r z l f' g tks bk made S es x t e)->r8 A [.ref r.p,.int n,.int x] H Q E:=λ⟨e,h⟩=>⟨B,r,z,l,f',g,tks,bk,made,S,es,n,x,t,e,rfl,hR,ht,hn,h⟩
  refine⟨_,.inl ⟨mD p'.m,Sum.inl x,.inl hpe,rfl,rfl⟩,?_⟩;rcases q with ⟨q1,q⟩|⟨s,hs,hk,hh,hl,q⟩
  ·cases e0:mC p' x with
   |none=>
    rw[hval,e0];exact wD ⟨QE ∅,goOn q⟩
   |some k=>
    obtain⟨s,hs,hsn,hsh⟩:=q1 k e0;rw[hval,e0];refine xD ⟨T.Ac,T.Aj,_,XH,p'.d,rfl,_,.inl ⟨mD p'.m,Sum.inl x,.inl hpe,rfl,by rw[hval,e0];rfl⟩,r.hd,rfl,_,.inl ⟨_,Sum.inl k,.inl hR.s.h,rfl,by rw[<-hsn];exact (eK hR.s.nn hs).symm⟩,s.h,rfl,?_⟩;rw[fA ⋯];exact⟨QE ∅,goOn q⟩
  ·rw[hval,hk];have hv:some (V.int s.n)=gC (mD p'.m) (Sum.inl x):=by rw[hval,hk];rfl
   refine xD ⟨T.Ac,T.Aj,_,XH,p'.d,rfl,_,.inl ⟨mD p'.m,Sum.inl x,.inl hpe,rfl,hv⟩,r.hd,rfl,_,.inl ⟨_,Sum.inl s.n,.inl hR.s.h,rfl,(eK hR.s.nn hs).symm⟩,s.h,rfl,?_⟩;rw[iA hh];refine⟨QE ∅,T.Ac,T.Ai,_,WH,p'.d,rfl,_,.inl ⟨mD p'.m,Sum.inl x,.inl hpe,rfl,hv⟩,r.sd,rfl,_,.inl ⟨_,Sum.inl s.n,.inl hR.s.s,rfl,(MM hR.s.nn hs).symm⟩,r,made,S,s.a,s.xs,rfl,hR.s,⋯,hR.s.x s hs,?_⟩;rcases q with ⟨hm,q⟩|⟨hm,htie,q⟩
   ·exact .inl ⟨hm,q⟩
   ·refine .inr ⟨hm,λa H1 hS1 ha hk1=>?_⟩;obtain⟨dx1,h11⟩:=hS1.me;have npd:p'.d≠r.p:=LC hpe h1 (λz=>nomatch z);have De:=D.e p' hp;have hd1:=hk1 _ _ hpe npd De.1 De.2.1;have hs1:s∈S++[(⟨made,a,s.xs,1⟩:Sh)]:=pA _ hs;refine⟨dx1,_,h11,QE ∅,r,made+1,S++[⟨made,a,s.xs,1⟩],p'.d,mD p'.m,x,rfl,hS1,hd1,De.1,De.2.1,by rw[oA];show S.length+1<=100000;omega,.inr ⟨s,hs1,hv.symm,λH2 hS2 hd2 hk2=>?_⟩⟩;rw[show oE s.n s.h (S++[(⟨made,a,s.xs,1⟩:Sh)])=YC s.n (S++[⟨made,a,s.xs,1⟩]) by unfold oE;rw[fA ⋯]] at hS2;rw[t8] at hd2;obtain⟨dx2,h12⟩:=hS2.me;have fl:(p'.m.filter λy=>decide (y.1≠x)).length<=p'.m.length:=bB _ _;have nf:x∉(p'.m.filter λy=>decide (y.1≠x)).map (·.1):=λz=>by
     obtain⟨u,hu,rfl⟩:=bA.mp z;exact absurd rfl (UA (AA.mp hu).2)
    have nd1:(((p'.m.filter λy=>decide (y.1≠x))++[(x,made)]).map (·.1)).Nodup:=by
     rw[gA];exact zA.mpr ⟨(List.filter_sublist.map _).nodup (hR.ux p' hp),by simp,λa ha b hb z=>nf (by rw[z,aA.mp hb] at ha;exact ha)⟩
    refine⟨p'.d,rfl,_,.inl ⟨mD (p'.m.filter λy=>decide (y.1≠x)),Sum.inl x,hd2,rfl,by unfold mD;rw[cA];omega,rfl⟩,dx2,_,by rw[vC npd.symm];exact h12,QE ∅,?_⟩;rw[sJ _ u8,show mD (p'.m.filter λy=>decide (y.1≠x))++[((Sum.inl x:Key),V.int made)]=mD ((p'.m.filter λy=>decide (y.1≠x))++[(x,made)]) by unfold mD;rw[gA];rfl];have hs':∀s'∈YC s.n (S++[(⟨made,a,s.xs,1⟩:Sh)]),B s'.a=none/\s'.xs.length=(pw g).toNat:=λs' hs'=>by
     obtain⟨u,hu,rfl⟩:=bA.mp hs';have key:B u.a=none/\u.xs.length=(pw g).toNat:=by
      rcases dA.mp hu with h3|h3
      ·exact⟨hR.sb u h3,hR.sz u h3⟩
      ·rw[aA.mp h3];exact⟨hR.dm a ha,hR.sz s hs⟩
     split
     ·exact key
     ·exact key
    obtain⟨z1,z2⟩:=hR.put hp (hS2.kd hd2 De.1 De.2.1 sE) hs' (m:=(p'.m.filter λy=>decide (y.1≠x))++[(x,made)]) IC nd1 (λc o h n1 n2 n3 n4 ο=>by rw[vC n1];exact hk2 _ _ (hk1 _ _ h n2 n3 n4) n1 n3 n4);have e1:EC t x=(false,t.n,x):=by unfold EC;rw[htie]
    rw[hpk,hpn] at z1;refine⟨B,r,z,l,f',g,tks,bk,made+1,_,_,n,x,t,{p' with m:=(p'.m.filter λy=>decide (y.1≠x))++[(x,made)]},rfl,z1,ht,hn,bA.mpr ⟨p',hp,iA ⟨hpk,hpn⟩⟩,by rw[e1];exact hpk,by rw[e1];exact hpn.trans hn.symm,?_,?_,.inl ⟨made,?_,λH' s'=>q a _ ha (z1.same s') λc o h n1 n2 n3 n4 n5=>s' _ _ (z2 c o h n1 n2 n3 n4 n5)⟩⟩
    ·show (List.map _ (S++[_])).length<=10000;rw[cA,oA];exact hl
    ·show (_++[_]).length<=10000;rw[oA];have h3:(p'.m.filter λy=>decide (y.1≠x)).length < p'.m.length:=by
      refine LB.mpr ⟨(x,s.n),(OD (hR.ux p' hp)).mp hk,?_⟩;simp
     show _+1<=10000;omega
    ·rw[e1];exact (OD nd1).mpr (eA _ (qA ..))
def ED (es:List Ho):List Int:=(es.map λe=>e.m.map (·.2)).flatten
theorem LO {e:Ho} {es:List Ho}:ED (e::es)=e.m.map (·.2)++ED es:=rfl
structure PC (S:List Sh) (es:List Ho):Prop where
 liv:∀e∈es,∀y∈e.m,∃s∈S,s.n=y.2
 cnt:∀s∈S,s.h=((ED es).count s.n:Int)
 pos:∀s∈S,1<=s.h
theorem w8 {k:Bool} {n:Int} {m:List (Int×Int)}:∀{es:List Ho},(∀e∈es,¬(e.k=k/\e.n=n))->WC k n m es=es
 |[],_=>rfl
 |e::es,h=>by
  show (if e.k=k/\e.n=n then {e with m:=m} else e)::WC k n m es=e::es;rw[fA (h e (qA ..)),w8 λe' he'=>h e' (xA _ he')]
theorem xQ {e:Ho} {m:List (Int×Int)} {k:Int}:∀{es:List Ho},(es.map Ho.d).Nodup->(∀e'∈es,e'.k=e.k->e'.n=e.n->e'=e)->e∈es->(ED (WC e.k e.n m es)).count k+(e.m.map (·.2)).count k=(ED es).count k+(m.map (·.2)).count k
 |[],_,_,h=>by cases h
 |e0::es,nd,un,he=>by
  have e1:WC e.k e.n m (e0::es)=(if e0.k=e.k/\e0.n=e.n then {e0 with m:=m} else e0)::WC e.k e.n m es:=rfl;rw[yA,OA] at nd;by_cases c:e0.k=e.k/\e0.n=e.n
  ·obtain rfl:=un e0 (qA ..) c.1 c.2;have hout:∀e'∈es,¬(e'.k=e0.k/\e'.n=e0.n):=λe' he' z=>nd.1 (by rw[<-un e' (xA _ he') z.1 z.2];exact bA.mpr ⟨e',he',rfl⟩);rw[e1,iA c,w8 hout,LO,LO,qB,qB];show (m.map (·.2)).count k+_+_=_;omega
  ·have he':e∈es:=(vA.mp he).elim (λz=>absurd (by rw[z];exact⟨rfl,rfl⟩) c) id;have ih:=xQ (m:=m) (k:=k) nd.2 (λe' h=>un e' (xA _ h)) he';rw[e1,fA c,LO,LO,qB,qB];omega
theorem yQ {es:List Ho} {k:Int}:k∈ED es↔∃e∈es,∃y∈e.m,y.2=k:=by
 unfold ED;simp only[List.mem_flatten,bA];constructor
 ·rintro⟨l,⟨e,he,rfl⟩,hk⟩;obtain⟨y,hy,rfl⟩:=bA.mp hk;exact⟨e,he,y,hy,rfl⟩
 ·rintro⟨e,he,y,hy,rfl⟩;exact⟨_,⟨e,he,rfl⟩,bA.mpr ⟨y,hy,rfl⟩⟩
theorem kU {k:Bool} {n:Int} {m:List (Int×Int)} {es:List Ho} {e':Ho} (h:e'∈WC k n m es):(∃u∈es,u.k=k/\u.n=n/\e'={u with m:=m})\/(e'∈es/\¬(e'.k=k/\e'.n=n)):=by
 obtain⟨u,hu,rfl⟩:=bA.mp h;by_cases c:u.k=k/\u.n=n
 ·rw[iA c];exact .inl ⟨u,hu,c.1,c.2,rfl⟩
 ·rw[fA c];exact .inr ⟨hu,c⟩
theorem PC.more {S:List Sh} {es:List Ho} {e:Ho} {made:Int} {a:Addr} {zs:List Int} {y:Int} (h:PC S es) (nd:(es.map Ho.d).Nodup) (un:∀e'∈es,e'.k=e.k->e'.n=e.n->e'=e) (he:e∈es) (hb:∀s∈S,s.n < made):PC (S++[⟨made,a,zs,1⟩]) (WC e.k e.n (e.m++[(y,made)]) es):=by
 have hfresh:made∉ED es:=λz=>by
  obtain⟨e',he',y',hy',hk⟩:=yQ.mp z;obtain⟨s,hs,hn⟩:=h.liv e' he' y' hy';have:=hb s hs;omega
 have hc:∀k,(ED (WC e.k e.n (e.m++[(y,made)]) es)).count k=(ED es).count k+if made=k then 1 else 0:=λk=>by
  have z:=xQ (m:=e.m++[(y,made)]) (k:=k) nd un he;rw[gA,qB] at z;have:(([(y,made)]:List (Int×Int)).map (·.2)).count k=if made=k then 1 else 0:=by
   simp[List.count_singleton]
  omega
 refine⟨λe' he' y' hy'=>?_,λs hs=>?_,λs hs=>?_⟩
 ·rcases kU he' with ⟨u,hu,k1,k2,rfl⟩|⟨hu,_⟩
  ·obtain rfl:=un u hu k1 k2;rcases dA.mp hy' with h1|h1
   ·obtain⟨s,hs,hn⟩:=h.liv u hu y' h1;exact⟨s,pA _ hs,hn⟩
   ·rw[aA.mp h1];exact⟨_,eA _ (qA ..),rfl⟩
  ·obtain⟨s,hs,hn⟩:=h.liv e' hu y' hy';exact⟨s,pA _ hs,hn⟩
 ·rw[hc];rcases dA.mp hs with h1|h1
  ·have:=hb s h1;rw[fA ⋯,h.cnt s h1]
   rfl
  ·rw[aA.mp h1];show (1:Int)=_;rw[iA rfl,List.count_eq_zero.mpr hfresh]
   rfl
 ·rcases dA.mp hs with h1|h1
  ·exact h.pos s h1
  ·rw[aA.mp h1];exact Int.le_refl _
theorem PC.copy {S:List Sh} {es:List Ho} {e:Ho} {made:Int} {a:Addr} {zs:List Int} {x:Int} {s0:Sh} (h:PC S es) (nd:(es.map Ho.d).Nodup) (un:∀e'∈es,e'.k=e.k->e'.n=e.n->e'=e) (he:e∈es) (hb:∀s∈S,s.n < made) (nx:(e.m.map (·.1)).Nodup) (hs0:s0∈S) (nn:(S.map Sh.n).Nodup) (hx:(x,s0.n)∈e.m) (h2:1 < s0.h):
  PC (YC s0.n (S++[⟨made,a,zs,1⟩])) (WC e.k e.n ((e.m.filter λy=>decide (y.1≠x))++[(x,made)]) es):=by
 have hfresh:made∉ED es:=λz=>by
  obtain⟨e',he',y',hy',hk⟩:=yQ.mp z;obtain⟨s,hs,hn⟩:=h.liv e' he' y' hy';have:=hb s hs;omega
 have hflt:∀k,((e.m.filter λy=>decide (y.1≠x)).map (·.2)).count k+(if s0.n=k then 1 else 0)=(e.m.map (·.2)).count k:=λk=>by
  have gen:∀m:List (Int×Int),(m.map (·.1)).Nodup->(x,s0.n)∈m->((m.filter λy=>decide (y.1≠x)).map (·.2)).count k+(if s0.n=k then 1 else 0)=(m.map (·.2)).count k:=λm=>by
   induction m with
   |nil=>intro _ hm;cases hm
   |cons y m ih=>
    intro ndm hm;rw[yA,OA] at ndm;by_cases c:y.1=x
    ·have hy:y=(x,s0.n):=(vA.mp hm).elim (λz=>z.symm) λz=>absurd (by rw[c];exact bA.mpr ⟨_,z,rfl⟩) ndm.1;have hall:(m.filter λy=>decide (y.1≠x))=m:=List.filter_eq_self.mpr λu hu=>nA λz=>ndm.1 (by rw[c,<-z];exact bA.mpr ⟨u,hu,rfl⟩);rw[vB (by simpa using c),hall,yA,List.count_cons,hy];simp
    ·have hm':(x,s0.n)∈m:=(vA.mp hm).elim (λz=>absurd (by rw[<-z]) c) id;have:=ih ndm.2 hm';rw[wB (by simpa using c),yA,yA,List.count_cons,List.count_cons];omega
  exact gen e.m nx hx
 have hc:∀k,(ED (WC e.k e.n ((e.m.filter λy=>decide (y.1≠x))++[(x,made)]) es)).count k+(if s0.n=k then 1 else 0)=(ED es).count k+if made=k then 1 else 0:=λk=>by
  have z:=xQ (m:=(e.m.filter λy=>decide (y.1≠x))++[(x,made)]) (k:=k) nd un he;rw[gA,qB] at z;have z1:(([(x,made)]:List (Int×Int)).map (·.2)).count k=if made=k then 1 else 0:=by
   simp[List.count_singleton]
  have z2:=hflt k;omega
 have hs0b:=hb s0 hs0;refine⟨λe' he' y' hy'=>?_,λs hs=>?_,λs hs=>?_⟩
 ·have key:∃s∈S++[(⟨made,a,zs,1⟩:Sh)],s.n=y'.2:=by
   rcases kU he' with ⟨u,hu,k1,k2,rfl⟩|⟨hu,_⟩
   ·obtain rfl:=un u hu k1 k2;rcases dA.mp hy' with h1|h1
    ·obtain⟨s,hs,hn⟩:=h.liv u hu y' (AA.mp h1).1;exact⟨s,pA _ hs,hn⟩
    ·rw[aA.mp h1];exact⟨_,eA _ (qA ..),rfl⟩
   ·obtain⟨s,hs,hn⟩:=h.liv e' hu y' hy';exact⟨s,pA _ hs,hn⟩
  obtain⟨s,hs,hn⟩:=key;refine⟨_,bA.mpr ⟨s,hs,rfl⟩,?_⟩
  split<;>exact hn
 ·obtain⟨u,hu,rfl⟩:=bA.mp hs;have hu':u.h=(((ED es).count u.n+if made=u.n then 1 else 0:Nat):Int):=by
   rcases dA.mp hu with h1|h1
   ·have:=hb u h1;rw[fA ⋯,h.cnt u h1];rfl
   ·rw[aA.mp h1];show (1:Int)=_;rw[iA rfl,List.count_eq_zero.mpr hfresh];rfl
  have z:=hc u.n;by_cases c:u.n=s0.n
  ·rw[iA c];show u.h - 1=((ED _).count u.n:Int);rw[iA c.symm] at z;omega
  ·rw[fA c];rw[fA (λq=>c q.symm)] at z;omega
 ·obtain⟨u,hu,rfl⟩:=bA.mp hs;by_cases c:u.n=s0.n
  ·rw[iA c];show 1<=u.h - 1;rcases dA.mp hu with h1|h1
   ·rw[cE nn h1 hs0 c];omega
   ·rw[aA.mp h1] at c;have c:made=s0.n:=c;omega
  ·rw[fA c];rcases dA.mp hu with h1|h1
   ·exact h.pos u h1
   ·rw[aA.mp h1];exact Int.le_refl _
def FD (k:Int) (xs:List Int) (S:List Sh):List Sh:=S.map λs=>if s.n=k then {s with xs:=xs} else s
theorem YL {k:Int} {xs:List Int} {S:List Sh}:(FD k xs S).map Sh.a=S.map Sh.a:=by
 unfold FD;rw[lA];refine DA λe ο=>?_;show (if e.n=k then {e with xs:=xs} else e).a=e.a
 split<;>rfl
theorem x8 {k:Int} {xs:List Int} {S:List Sh}:(FD k xs S).map Sh.n=S.map Sh.n:=by
 unfold FD;rw[lA];refine DA λe ο=>?_;show (if e.n=k then {e with xs:=xs} else e).n=e.n
 split<;>rfl
theorem y8 {k:Int} {xs:List Int} {S:List Sh}:tE (FD k xs S)=tE S/\MD (FD k xs S)=MD S:=by
 unfold FD tE MD;rw[lA,lA];constructor
 ·refine DA λe ο=>?_;show ((Sum.inl (if e.n=k then {e with xs:=xs} else e).n:Key),V.ref (if e.n=k then {e with xs:=xs} else e).a)=_
  split<;>rfl
 ·refine DA λe ο=>?_;show ((Sum.inl (if e.n=k then {e with xs:=xs} else e).n:Key),V.int (if e.n=k then {e with xs:=xs} else e).h)=_
  split<;>rfl
theorem lU {n:Nat} {i:Int} (h0:0<=i) (h1:i < n):wH n i=some i.toNat:=by
 unfold wH;rw[iA h0,iA h1]
theorem M8 {xs:List Int} {i:Int} (h0:0<=i) (h1:i < xs.length):oG (xs.map V.int) i=some (.int (xs.getD i.toNat 0)):=by
 unfold oG;rw[cA,lU h0 h1];show (xs.map V.int)[i.toNat]?=_;rw[QA,List.getD_eq_getElem?_getD,GA (show i.toNat < xs.length by omega)]
 rfl
theorem RH.box {A:RC} {B H:Hp} {r:Ro} {z:Hz} {l f g:Int} {tks:List Tk} {bk:Kvs} {made:Int} {S:List Sh} {es:List Ho} {s:Sh} {xs:List Int} (h:RH A B H r z l f g tks bk made S es) (hs:s∈S) (hl:xs.length=(pw g).toNat):RH A B (jC H s.a (.lst (xs.map V.int))) r z l f g tks bk made (FD s.n xs S) es:=by
 have hsa:=h.s.x s hs;have k:Kd s.a H (jC H s.a (.lst (xs.map V.int))):=sE;have kd:∀{c:Addr} {kvs:Kvs},H c=some (.dK kvs)->jC H s.a (.lst (xs.map V.int)) c=some (.dK kvs):=λh=>k _ _ h (LC h hsa (λz=>nomatch z));obtain⟨dx,h1⟩:=h.s.me;refine⟨h.h.lo λc o e0=>?_,h.gd,h.ho,h.sh,⟨⟨dx,k _ _ h1 (LC h1 hsa (λz=>nomatch z))⟩,by rw[y8.1];exact kd h.s.s,by rw[y8.2];exact kd h.s.h,λu hu=>?_,by rw[YL];exact h.s.nd,by rw[x8];exact h.s.nn,λu hu=>?_,h.s.ne⟩,kd h.pd,kd h.bd,λe' he'=>kd (h.pe e' he'),h.nm,h.bm,h.bn,h.nd,λc hc=>?_,λc hc=>h.dm c (WI k IC c hc),λu hu=>?_,h.ux⟩
 ·by_cases n:c=s.a
  ·subst n;exact .inr (.inr (.inl (h.loS hs e0)))
  ·exact .inl (k _ _ e0 n)
 ·obtain⟨v,hv,rfl⟩:=bA.mp hu;by_cases c:v.n=s.n
  ·obtain rfl:=cE h.s.nn hv hs c;rw[iA rfl];exact IC
  ·rw[fA c];exact k _ _ (h.s.x v hv) (λz=>c (by rw[cE h.s.nd hv hs z]))
 ·obtain⟨v,hv,rfl⟩:=bA.mp hu;have:=h.s.b v hv
  split<;>exact this
 ·rcases hc with rfl|hc|⟨u,hu,rfl⟩
  ·exact h.ob _ (.inl rfl)
  ·exact h.ob _ (.inr (.inl hc))
  ·obtain⟨v,hv,rfl⟩:=bA.mp hu;have:=h.sb v hv
   split<;>exact this
 ·obtain⟨v,hv,rfl⟩:=bA.mp hu;have:=h.sz v hv
  split
  ·exact hl
  ·exact this
theorem PC.box {S:List Sh} {es:List Ho} {k:Int} {xs:List Int} (h:PC S es):PC (FD k xs S) es:=by
 refine⟨λe he y hy=>?_,λs hs=>?_,λs hs=>?_⟩
 ·obtain⟨s,hs,hn⟩:=h.liv e he y hy;refine⟨_,bA.mpr ⟨s,hs,rfl⟩,?_⟩
  split<;>exact hn
 ·obtain⟨u,hu,rfl⟩:=bA.mp hs;have:=h.cnt u hu
  split<;>exact this
 ·obtain⟨u,hu,rfl⟩:=bA.mp hs;have:=h.pos u hu
  split<;>exact this
def YH (A:RC) (w:Int) (B H:Hp) (r:Ro) (z:Hz) (l f g:Int) (tks:List Tk) (bk:Kvs) (made:Int) (S:List Sh) (es:List Ho) (t:Tk) (n a:Int) (e:Ho):Prop:=
 RH A B H r z l f g tks bk made S es/\PC S es/\t∈tks/\t.n=n/\(∃rt ty,pm t.rs (a / pw g)=some (rt,ty)/\Builtin.bitAnd rt w=w)/\(0<=a/\a < pw (l * f) * pw g)/\S.length < 9000/\e∈es/\e.k=(EC t (a / pw g)).1/\e.n=(EC t (a / pw g)).2.1/\e.m.length < 9000
inductive N8 (A:RC) (vs:List V) (H:Hp) (Q:VK) (E:XK):Prop where
 |mk (B:Hp) (r:Ro) (z:Hz) (l f g:Int) (tks:List Tk) (bk:Kvs) (made:Int) (S:List Sh) (es:List Ho) (t:Tk) (n a:Int) (e:Ho) (_:vs=[.ref r.p,.int n,.int a]) (_:YH A 1 B H r z l f g tks bk made S es t n a e) (_:((∃s∈S,mC e (EC t (a / pw g)).2.2=some s.n/\∀H',uC H H'->Q (.int (s.xs.getD (a % pw g).toNat 0)) H')\/(mC e (EC t (a / pw g)).2.2=none/\(S.length:Int)>=r.most/\∀H',uC H H'->E (.ref A.Aq) none H')\/(mC e (EC t (a / pw g)).2.2=none/\(S.length:Int) < r.most/\∀a' H',RH A B H' r z l f g tks bk (made+1) (S++[⟨made,a',List.replicate (pw g).toNat 0,1⟩]) (WC e.k e.n (e.m++[((EC t (a / pw g)).2.2,made)]) es)->Fb S r es H H'->Q (.int 0) H'))):N8 A vs H Q E
def Nh (A:RC):Sp:=N8 A
theorem Oh (T:fD K mg A):AC P w K mg base A.Ab "read" 9 ["self","task","address"] [] (Nh A):=by
 have Bt:=@Y7 P w K mg base A T;have A2:=@jK P w K mg base A T;refine T.Hg.have Q6 (λvs H Q E z=>?_) ?_
 ·obtain⟨B,r,z,l,f,g,tks,bk,made,S,es,t,n,a,e,rfl,_⟩:=z;rfl
 ·intro f cdv A' outer s H vs Q E hr z;obtain⟨B,r,z,l,f',g,tks,bk,made,S,es,t,n,a,e,rfl,⟨hR,hP,ht,hn,⟨rt,ty,hpm,hrt⟩,ha,hc,he,hek,hen,hml⟩,q⟩:=z;obtain⟨dx,h1⟩:=hR.s.me;obtain⟨dxh,h2⟩:=hR.h.me;refine⟨_,(CC (iD (i:=3) Q6.nd rfl (Or.inl rfl) (HD (cD (eC 0) rfl) T.Ag Bt (hr.mono (by decide)) GC (iC (eC 1) (iC (eC 2) (iC (QN rfl T.Lw) rC)))))
   (FC (uD (GD jI (VD (dD hr) (cD (eC 0) rfl) (HD (eC 0) T.Ac A2 (hr.mono (by decide)) GC (iC (eC 1) (iC (GD fE (eC 3) yC (λο ο=>rfl)) rC))) (λο ο=>rfl)) (GD fE (eC 3) yC (λο ο=>rfl)) (λο ο=>rfl))))),?_⟩
  unfold eU pD;rfl';simp only[h1];rfl';refine⟨T.Ac,T.Ap,_,bK,r.ho,rfl,dxh,_,by rw[hR.ho];exact h2,DF ∅,z,by rw[hR.ho],l,f',g,tks,bk,hR.h,hR.gd,.inr ⟨t,ht,hn,.inr ⟨ha.1,ha.2,.inr ⟨rt,ty,hpm,.inr ⟨hrt,λp H1 s1 hp1=>?_⟩⟩⟩⟩⟩;have hR1:=hR.same s1;have hg:=oI hR.gd;have hb0:0<=a % pw g:=Int.emod_nonneg _ ⋯;have hb1:a % pw g < pw g:=Int.emod_lt_of_pos _ ⋯;have last:∀{made':Int} {S':List Sh} {es':List Ho} {H2:Hp} {s:Sh},RH A B H2 r z l f' g tks bk made' S' es'->s∈S'->H2 p=some (.tup [.int (a / pw g),.int (a % pw g)])->Q (.int (s.xs.getD (a % pw g).toNat 0)) H2->∃a_1,V.ref r.sd=V.ref a_1/\∃x,YD H2 a_1 (V.int s.n) (some x)/\∃x_1,ZC K H2 p x_1/\∃x_2,oG x_1 1=some x_2/\∃a,x=V.ref a/\∃x i,x_2=V.int i/\QC K H2 a x/\∃x_3,oG x i=some x_3/\Q x_3 H2:=λ{made' S' es' H2 s} hR2 hs hp2 q=>by
   have hsz:=hR2.sz s hs;exact⟨r.sd,rfl,_,.inl ⟨tE S',Sum.inl s.n,.inl hR2.s.s,rfl,(MM hR2.s.nn hs).symm⟩,_,ZC.of hp2,.int (a % pw g),rfl,s.a,rfl,_,_,rfl,QC.of (hR2.s.x s hs),_,M8 hb0 (by rw[hsz];omega),q⟩
  refine⟨_,dx,_,s1 _ _ h1,T.Ac,T.Ai,_,WH,dx,_,s1 _ _ h1,QE ∅,_,ZC.of hp1,.int (a / pw g),rfl,B,r,z,l,f',g,tks,bk,made,S,es,n,a / pw g,t,e,rfl,hR1,ht,hn,he,hek,hen,⋯,⋯,?_⟩;rcases q with ⟨s,hs,hk,q⟩|⟨hk,hm,q⟩|⟨hk,hm,q⟩
  ·exact .inl ⟨s.n,hk,λH2 s2=>last (hR1.same s2) hs (s2 _ _ hp1) (q _ (s1.trans s2))⟩
  ·exact .inr (.inl ⟨hk,hm,λH2 s2=>q _ (s1.trans s2)⟩)
  ·refine .inr (.inr ⟨hk,hm,λa' H2 ο hR2 fr=>?_⟩);have hp2:H2 p=some (.tup [.int (a / pw g),.int (a % pw g)]):=fr _ _ hp1 (LC hp1 (s1 _ _ h1) (λz=>nomatch z)) (LC hp1 hR1.s.s (λz=>nomatch z)) (LC hp1 hR1.s.h (λz=>nomatch z)) (λz=>by
    obtain⟨e,he,h⟩:=bA.mp z;have h9:=hR1.pe e he;rw[h,hp1] at h9;cases h9) (λs hs=>LC hp1 (hR1.s.x s hs) (λz=>nomatch z))
   have z0:(List.replicate (pw g).toNat (0:Int)).getD (a % pw g).toNat 0=0:=by
    rw[List.getD_eq_getElem?_getD,List.getElem?_replicate]
    split<;>rfl
   exact last (s:=⟨made,a',List.replicate (pw g).toNat 0,1⟩) hR2 (eA _ (qA ..)) hp2 (by rw[z0];exact q a' _ hR2 λc o h n1 n2 n3 n4 n5=>fr c o (s1 _ _ h) n1 n2 n3 n4 n5)
def mU (S:List Sh) (s:Sh) (i:Nat) (v:Int):List Sh:=FD s.n (s.xs.set i v) S
inductive O8 (A:RC) (vs:List V) (H:Hp) (Q:VK) (E:XK):Prop where
 |mk (B:Hp) (r:Ro) (z:Hz) (l f g:Int) (tks:List Tk) (bk:Kvs) (made:Int) (S:List Sh) (es:List Ho) (t:Tk) (n a v:Int) (e p:Ho) (_:vs=[.ref r.p,.int n,.int a,.int v]) (_:YH A 2 B H r z l f g tks bk made S es t n a e) (_:p∈es) (_:p.k=false) (_:p.n=n) (_:p.m.length < 9000) (_:(p=e\/mC p (a / pw g)=none)) (_:((∃s∈S,mC e (EC t (a / pw g)).2.2=some s.n/\(s.h<=1\/e.k=true)/\∀H',RH A B H' r z l f g tks bk made (mU S s (a % pw g).toNat v) es->Fb S r es H H'->Q .non H')\/(∃s∈S,mC e (EC t (a / pw g)).2.2=some s.n/\1 < s.h/\e.k=false/\(S.length:Int)>=r.most/\∀H',uC H H'->E (.ref A.Aq) none H')\/(∃s∈S,mC e (EC t (a / pw g)).2.2=some s.n/\1 < s.h/\e.k=false/\(S.length:Int) < r.most/\∀a' H',RH A B H' r z l f g tks bk (made+1) (FD made (s.xs.set (a % pw g).toNat v) (YC s.n (S++[⟨made,a',s.xs,1⟩]))) (WC false n ((e.m.filter λy=>decide (y.1≠a / pw g))++[(a / pw g,made)]) es)->Fb S r es H H'->Q .non H')\/(mC e (EC t (a / pw g)).2.2=none/\(S.length:Int)>=r.most/\∀H',uC H H'->E (.ref A.Aq) none H')\/(mC e (EC t (a / pw g)).2.2=none/\(S.length:Int) < r.most/\∀a' H',RH A B H' r z l f g tks bk (made+1) (FD made ((List.replicate (pw g).toNat (0:Int)).set (a % pw g).toNat v) (S++[⟨made,a',List.replicate (pw g).toNat 0,1⟩])) (WC e.k e.n (e.m++[((EC t (a / pw g)).2.2,made)]) es)->Fb S r es H H'->Q .non H'))):O8 A vs H Q E
def Ph (A:RC):Sp:=O8 A
theorem P8 {t:Tk} {x:Int} (h:(EC t x).1=false):EC t x=(false,t.n,x)/\(pm t.rs x).bind (·.2)=none:=by
 unfold EC at h ⊢;cases e:(pm t.rs x).bind (·.2) with
 |none=>exact⟨rfl,rfl⟩
 |some y=>rw[e] at h;cases h
theorem Qh (T:fD K mg A):AC P w K mg base A.Ab "write" 10 ["self","task","address","value"] [] (Ph A):=by
 have Bt:=@Y7 P w K mg base A T;have B6:=@KO P w K mg base A T;refine T.Gm.have R6 (λvs H Q E z=>?_) ?_
 ·obtain⟨B,r,z,l,f,g,tks,bk,made,S,es,t,n,a,v,e,p,rfl,_⟩:=z;rfl
 ·intro f cdv A' outer s H vs Q E hr z;obtain⟨B,r,z,l,f',g,tks,bk,made,S,es,t,n,a,v,e,p,rfl,⟨hR,hP,ht,hn,⟨rt,ty,hpm,hrt⟩,ha,hc,he,hek,hen,hml⟩,hp,hpk,hpn,hpl,hpe,q⟩:=z;obtain⟨dx,h1⟩:=hR.s.me;obtain⟨dxh,h2⟩:=hR.h.me;refine⟨_,(CC (iD (i:=4) R6.nd rfl (Or.inl rfl) (HD (cD (eC 0) rfl) T.Ag Bt (hr.mono (by decide)) GC (iC (eC 1) (iC (eC 2) (iC (QN rfl T.Le) rC)))))
   (FC (Z1 (eC 3) (Y1 (VD (dD hr) (cD (eC 0) rfl) (HD (eC 0) T.Ac B6 (hr.mono (by decide)) GC (iC (eC 1) (iC (GD fE (eC 4) yC (λο ο=>rfl)) rC))) (λο ο=>rfl)) (GD fE (eC 4) yC (λο ο=>rfl)) X3)))),?_⟩
  unfold eU pD;rfl';simp only[h1];rfl';refine⟨T.Ac,T.Ap,_,bK,r.ho,rfl,dxh,_,by rw[hR.ho];exact h2,DF ∅,z,by rw[hR.ho],l,f',g,tks,bk,hR.h,hR.gd,.inr ⟨t,ht,hn,.inr ⟨ha.1,ha.2,.inr ⟨rt,ty,hpm,.inr ⟨hrt,λtp H1 s1 hp1=>?_⟩⟩⟩⟩⟩;have hR1:=hR.same s1;have hg:=oI hR.gd;have hb0:0<=a % pw g:=Int.emod_nonneg _ ⋯;have hb1:a % pw g < pw g:=Int.emod_lt_of_pos _ ⋯;refine⟨_,dx,_,s1 _ _ h1,T.Ac,T.Ai,_,WH,dx,_,s1 _ _ h1,QE ∅,_,ZC.of hp1,.int (a / pw g),rfl,B,r,z,l,f',g,tks,bk,made,S,es,n,a / pw g,t,p,rfl,hR1,ht,hn,hp,hpk,hpn,⋯,?_⟩;have hpt:∀{H2:Hp},Fb S r es H1 H2->H2 tp=some (.tup [.int (a / pw g),.int (a % pw g)]):=λfr=>fr _ _ hp1 (LC hp1 (s1 _ _ h1) (λz=>nomatch z)) (LC hp1 hR1.s.s (λz=>nomatch z)) (LC hp1 hR1.s.h (λz=>nomatch z)) (λz=>by
   obtain⟨e,he,h⟩:=bA.mp z;have h9:=hR1.pe e he;rw[h,hp1] at h9;cases h9) (λs hs=>LC hp1 (hR1.s.x s hs) (λz=>nomatch z))
  have last:∀{made':Int} {S':List Sh} {es':List Ho} {H2:Hp} {s:Sh},RH A B H2 r z l f' g tks bk made' S' es'->s∈S'->H2 tp=some (.tup [.int (a / pw g),.int (a % pw g)])->(RH A B (jC H2 s.a (.lst ((s.xs.set (a % pw g).toNat v).map V.int))) r z l f' g tks bk made' (FD s.n (s.xs.set (a % pw g).toNat v) S') es'->Q .non (jC H2 s.a (.lst ((s.xs.set (a % pw g).toNat v).map V.int))))->
    ∃a,V.ref r.sd=V.ref a/\∃x,YD H2 a (V.int s.n) (some x)/\∃x_1,ZC K H2 tp x_1/\∃x_2,oG x_1 1=some x_2/\∃p,x=V.ref p/\∃x x_3,x_2=V.int x_3/\H2 p=some (HO.lst x)/\∃x_4,wH x.length x_3=some x_4/\Q V.non (jC H2 p (HO.lst (x.set x_4 (V.int v)))):=λ{made' S' es' H2 s} hR2 hs hp2 q=>by
   have hsz:=hR2.sz s hs;refine⟨r.sd,rfl,_,.inl ⟨tE S',Sum.inl s.n,.inl hR2.s.s,rfl,(MM hR2.s.nn hs).symm⟩,_,ZC.of hp2,.int (a % pw g),rfl,s.a,rfl,_,_,rfl,hR2.s.x s hs,_,by rw[cA];exact lU hb0 (by rw[hsz];omega),?_⟩;rw[<-List.map_set];exact q (hR2.box hs (by rw[List.length_set];exact hsz))
  have hee:e.k=false->e=p/\(EC t (a / pw g)).2.2=a / pw g/\(pm t.rs (a / pw g)).bind (·.2)=none:=λhk=>by
   obtain⟨l1,l2⟩:=P8 (by rw[<-hek];exact hk);exact⟨hR.one he hp (by rw[hk,hpk]) (by rw[hen,l1,hpn];exact hn),by rw[l1],l2⟩
  have pk:e.k=true->p≠e:=λhk z=>by rw[z,hk] at hpk;cases hpk
  have hno:mC e (EC t (a / pw g)).2.2=none->∀k,mC p (a / pw g)=some k->∃s∈S,s.n=k/\s.h<=1:=λhk k h=>by
   cases c:e.k with
   |true=>rw[hpe.resolve_left (pk c)] at h;cases h
   |false=>obtain⟨rfl,h3,_⟩:=hee c;rw[h3] at hk;rw[hk] at h;cases h
  rcases q with ⟨s,hs,hk,hh,q⟩|⟨s,hs,hk,hh,hkf,hm,q⟩|⟨s,hs,hk,hh,hkf,hm,q⟩|⟨hk,hm,q⟩|⟨hk,hm,q⟩
  ·refine .inl ⟨λk h=>?_,e,he,hek,hen,⋯,⋯,.inl ⟨s.n,hk,λH2 s2=>last (hR1.same s2) hs (s2 _ _ hp1) λhR3=>q _ hR3 λc o h n1 n2 n3 n4 n5=>by rw[vC (n5 s hs)];exact s2 _ _ (s1 _ _ h)⟩⟩;cases c:e.k with
   |true=>rw[hpe.resolve_left (pk c)] at h;cases h
   |false=>
    obtain⟨rfl,h3,_⟩:=hee c;rw[h3] at hk;rw[hk] at h;cases h;exact⟨s,hs,rfl,hh.resolve_right (by rw[c];exact wA)⟩
  ·obtain⟨rfl,h3,_⟩:=hee hkf;rw[h3] at hk;exact .inr ⟨s,hs,hk,hh,⋯,.inl ⟨hm,q _ s1⟩⟩
  ·obtain⟨rfl,h3,h4⟩:=hee hkf;rw[h3] at hk;refine .inr ⟨s,hs,hk,hh,⋯,.inr ⟨hm,h4,λa' H2 ha' hR2 fr=>?_⟩⟩;have hsb:=hR.s.b s hs;exact last (s:=⟨made,a',s.xs,1⟩) hR2 (bA.mpr ⟨⟨made,a',s.xs,1⟩,eA _ (qA ..),fA (show ¬made=s.n by omega)⟩) (hpt fr) λhR3=>q a' _ hR3 λc o h n1 n2 n3 n4 n5=>by
    rw[vC (λz=>by rw[show c=a' from z,VF s1 ha'] at h;cases h)];exact fr c o (s1 _ _ h) n1 n2 n3 n4 n5
  ·exact .inl ⟨hno hk,e,he,hek,hen,⋯,⋯,.inr (.inl ⟨hk,hm,λH2 s2=>q _ (s1.trans s2)⟩)⟩
  ·refine .inl ⟨hno hk,e,he,hek,hen,⋯,⋯,.inr (.inr ⟨hk,hm,λa' H2 ha' hR2 fr=>?_⟩)⟩;exact last (s:=⟨made,a',List.replicate (pw g).toNat 0,1⟩) hR2 (eA _ (qA ..)) (hpt fr) λhR3=>q a' _ hR3 λc o h n1 n2 n3 n4 n5=>by
    rw[vC (λz=>by rw[show c=a' from z,VF s1 ha'] at h;cases h)];exact fr c o (s1 _ _ h) n1 n2 n3 n4 n5
theorem zQ {CX:CXT} {P:Program} {w:World} {K:W.Frag} {mg:Str->Option Value} {base:Heap} {N:List Str} {qual:Str} {scope:Scope} {f:Addr} {cd:Value} {A:Around} {outer:List Env} {s:Shared} {H:Hp} {E:XK}:(SD CX P w K mg base N qual scope f cd A outer s H E).H₀=H:=rfl
def sD (m:List (Int×Int)) (S:List Sh):List Sh:=S.map λs=>{s with h:=s.h+((m.map (·.2)).count s.n:Int)}
theorem Rh {S:List Sh}:sD [] S=S:=by
 unfold sD;refine (DA λs ο=>?_).trans (List.map_id S);show ({s with h:=s.h+0}:Sh)=s;rw[Int.add_zero]
theorem Q8 {m:List (Int×Int)} {S:List Sh}:(sD m S).map Sh.n=S.map Sh.n:=by
 unfold sD;rw[lA];rfl
theorem ZL {m:List (Int×Int)} {S:List Sh}:(sD m S).map Sh.a=S.map Sh.a:=by
 unfold sD;rw[lA];rfl
theorem aM {m:List (Int×Int)} {S:List Sh}:tE (sD m S)=tE S:=by
 unfold tE sD;rw[lA];rfl
theorem R8 {S:List Sh} {s:Sh} (nn:(S.map Sh.n).Nodup) (hs:s∈S):JC (MD S) (Sum.inl s.n) (.int (s.h+1))=MD (S.map λu=>if u.n=s.n then {u with h:=u.h+1} else u):=by
 unfold JC;rw[lI,eK nn hs,iA (show (some (V.int s.h)).isSome=true from rfl)];unfold MD;rw[lA,lA];refine DA λu hu=>?_;show (if (Sum.inl u.n:Key)=Sum.inl s.n then ((Sum.inl u.n:Key),V.int (s.h+1)) else (Sum.inl u.n,V.int u.h))=(Sum.inl (if u.n=s.n then {u with h:=u.h+1} else u).n,V.int (if u.n=s.n then {u with h:=u.h+1} else u).h);by_cases c:u.n=s.n
 ·have e:u=s:=cE nn hu hs c;rw[iA (by rw[c]),iA c,e]
 ·rw[fA (λz=>c (YA z)),fA c]
theorem PC.fork {S:List Sh} {es:List Ho} {e:Ho} {k:Bool} {n:Int} {d:Addr} (h:PC S es) (he:e∈es):PC (sD e.m S) (es++[⟨k,n,d,e.m⟩]):=by
 have hn:ED (es++[(⟨k,n,d,e.m⟩:Ho)])=ED es++e.m.map (·.2):=by
  unfold ED;rw[gA,List.flatten_append];simp
 refine⟨λe' he' y hy=>?_,λs hs=>?_,λs hs=>?_⟩
 ·have key:∃s∈S,s.n=y.2:=by
   rcases dA.mp he' with h1|h1
   ·exact h.liv e' h1 y hy
   ·rw[aA.mp h1] at hy;exact h.liv e he y hy
  obtain⟨s,hs,e1⟩:=key;exact⟨_,bA.mpr ⟨s,hs,rfl⟩,e1⟩
 ·obtain⟨u,hu,rfl⟩:=bA.mp hs;show u.h+_=((ED _).count u.n:Int);rw[hn,qB,h.cnt u hu];omega
 ·obtain⟨u,hu,rfl⟩:=bA.mp hs;have:=h.pos u hu;show 1<=u.h+_;omega
inductive S8 (A:RC) (vs:List V) (H:Hp) (Q:VK) (E:XK):Prop where
 |mk (B:Hp) (r:Ro) (z:Hz) (l f g:Int) (tks:List Tk) (bk:Kvs) (made:Int) (S:List Sh) (es:List Ho) (n:Int) (t:Tk) (e:Ho) (_:vs=[.ref r.p,.int n]) (_:RH A B H r z l f g tks bk made S es) (_:PC S es) (_:tks.length < 1000) (_:t∈tks) (_:t.n=n) (_:e∈es) (_:e.k=false) (_:e.n=n) (_:e.m.length<=9000) (_:S.length<=9000) (_:∀(k:Nat) (p d:Addr) (H':Hp),UH (zD (KD tks)) k->H d=none->RH A B H' r z l f g (tks++[⟨k,p,t.rs⟩]) bk made (sD e.m S) (es++[⟨false,k,d,e.m⟩])->(∀c o,H c=some o->c≠z.td->c≠r.pd->c≠r.hd->H' c=some o)->Q (.int k) H'):S8 A vs H Q E
def Th (A:RC):Sp:=S8 A
theorem Uh (T:fD K mg A):AC P w K mg base A.Ab "fork" 6 ["self","task"] [] (Th A):=by
 have Ik:=@NL P w K mg base A T;refine T.Hh.have cT (λvs H Q E z=>?_) ?_
 ·obtain⟨B,r,z,l,f,g,tks,bk,made,S,es,n,t,e,rfl,_⟩:=z;rfl
 ·intro f cdv A' outer s H vs Q E hr z;obtain⟨B,r,z,l,f',g,tks,bk,made,S,es,n,t,e,rfl,hR,hP,htl,ht,hn,he,hek,hen,hml,hSl,q⟩:=z;obtain⟨dx,h1⟩:=hR.s.me;obtain⟨dxh,h2⟩:=hR.h.me;have D:=UL hR.nd;have hz:=PySem.sizeLine_eq;refine⟨_,(CC (iD (i:=2) cT.nd rfl (Or.inl rfl) (HD (cD (eC 0) rfl) T.Ag Ik (hr.mono (by decide)) GC (iC (eC 1) rC)))
   (CC (QF (dD hr) (cD (eC 0) rfl) (eC 2) (iI We rfl T.Lv PyProof.Rows.boot_dict (iC (VD (dD hr) (cD (eC 0) rfl) (eC 1) (λο ο=>rfl)) rC)) rfl)
   (CC (je (GH aB rfl (Pe (ze (VD (dD hr) (cD (eC 0) rfl) (eC 2) (λο ο=>rfl)))) (wF (i:=3) cT.nd rfl (Or.inl rfl)) (FC (QF (dD hr) (cD (eC 0) rfl) (eC 3) (BD aG (VD (dD hr) (cD (eC 0) rfl) (eC 3) (λο ο=>rfl)) yC) rfl))))
   (FC (uD (eC 2)))))),?_⟩
  unfold Z7 pD ND FJ;rfl';obtain⟨e',he',k1,k2,hpv⟩:=hR.pv ht;obtain rfl:e'=e:=hR.one he' he (by rw[k1,hek]) (by rw[k2,hn,hen]);refine⟨_,dx,_,h1,T.Ac,T.Ap,_,bK,r.ho,rfl,dxh,_,by rw[hR.ho];exact h2,DF ∅,z,by rw[hR.ho],l,f',g,tks,bk,hR.h,htl,.inr ⟨t,ht,hn,λk p H1 hk hH1 hp kd=>?_⟩⟩;have De:=D.e e' he;have h11:=kd _ _ h1 (LC h1 hR.h.t (λz=>nomatch z));have hpd1:=kd _ _ hR.pd D.pt;have hpe1:=kd _ _ (hR.pe e' he) De.2.2.2.2.1;rw[hn] at hpv;refine⟨_,dx,_,h11,T.Ac,T.Al,_,UI,r.pd,rfl,_,.inl ⟨_,Sum.inl n,.inl hpd1,rfl,hpv.symm⟩,e'.d,rfl,mD e'.m,.inl hpe1,λd hd=>?_⟩;have s1:=bE (o:=.dK (mD e'.m)) (LD (H:=H1)) hd;have hd1:jC H1 d (.dK (mD e'.m)) d=some (.dK (mD e'.m)):=IC;generalize jC H1 d (.dK (mD e'.m))=H2 at *;have hks:zD (FE (RE es))=zD (KD tks):=by
   unfold zD FE KD;rw[lA,lA];have e1:(RE es).map ((λx:Key×V=>x.1) ∘ λe:Ho=>((Sum.inl e.n:Key),V.ref e.d))=((RE es).map Ho.n).map Sum.inl:=by rw[lA];rfl
   have e2:tks.map ((λx:Key×V=>x.1) ∘ λe:Tk=>((Sum.inl e.n:Key),V.ref e.p))=(tks.map Tk.n).map Sum.inl:=by rw[lA];rfl
   exact e1.trans ((congrArg _ hR.nm).trans e2.symm)
  have hkn:gC (FE (RE es)) (Sum.inl (k:Int))=none:=Q7 (by rw[hks];exact hk.1);have hd0:H d=none:=by
   cases e0:H d with
   |none=>rfl
   |some o=>
    exfalso;by_cases n1:d=z.td
    ·rw[n1,hH1.t] at hd;cases hd
    ·rw[kd _ _ e0 n1] at hd;cases hd
  have hpl:(FE (RE es)).length<=1000:=by
   have:=congrArg List.length hR.nm;rw[cA,cA] at this;unfold FE;rw[cA];omega
  refine⟨_,dx,_,s1 _ _ h11,T.Ac,T.Al,_,UI,r.pd,rfl,_,.inl ⟨_,Sum.inl (k:Int),s1 _ _ hpd1,rfl,⋯,rfl⟩,?_⟩;rw[sJ _ hkn];have ndp:d≠r.pd:=λz=>by rw[z,hpd1] at hd;cases hd
  have hd2:jC H2 r.pd (.dK (FE (RE es)++[(Sum.inl (k:Int),V.ref d)])) d=some (.dK (mD e'.m)):=by rw[vC ndp];exact hd1
  have hpd2:jC H2 r.pd (.dK (FE (RE es)++[(Sum.inl (k:Int),V.ref d)])) r.pd=some (.dK (FE (RE es)++[(Sum.inl (k:Int),V.ref d)])):=IC;have k2:Kd r.pd H2 (jC H2 r.pd (.dK (FE (RE es)++[(Sum.inl (k:Int),V.ref d)]))):=sE;generalize jC H2 r.pd (.dK (FE (RE es)++[(Sum.inl (k:Int),V.ref d)]))=H3 at *;have h13:=k2 _ _ (s1 _ _ h11) (LC h11 hpd1 (λz=>nomatch z));refine⟨d,(λo u=>by rw[zQ,hd0];exact λz=>nomatch z),?_⟩;refine⟨_,dx,_,h13,T.Ac,T.Al,_,UI,r.pd,rfl,_,.inl ⟨_,Sum.inl (k:Int),.inl hpd2,rfl,by rw[PP _ _ _ _ hkn,iA rfl]⟩,d,rfl,_,hd2,λv0 hv0=>⟨d,rfl,mD e'.m,by rw[vC (bD hd2 hv0)];exact hd2,λo=>?_⟩⟩;have a3:∀c u,H c=some u->c≠z.td->c≠r.pd->H3 c=some u:=λc u h n1 n2=>k2 _ _ (s1 _ _ (kd _ _ h n1)) n2;have hhd3:=a3 _ _ hR.s.h D.ht D.hp;have nhd:d≠r.hd:=λz=>by rw[z,hR.s.h] at hd0;cases hd0
  have sT:sD (e'.m.take 0) S=S:=Rh;refine Xe (kvs:=mD e'.m) (λi σ G=>∃v3,σ=[some (.ref r.p),some (.int n),some (.int k),v3]/\G d=some (.frz o (.dK (mD e'.m)))/\G r.hd=some (.dK (MD (sD (e'.m.take i) S)))/\∀c u,H3 c=some u->c≠d->c≠r.hd->G c=some u) ⟨_,rfl,IC,by rw[sT,vC nhd.symm,vC (bD hhd3 hv0)];exact hhd3,λc u h n1 ο=>by rw[vC n1,vC (bD h hv0)];exact h⟩ (λi σ G _ zz=>by obtain⟨_,zz⟩:=zz;exact zz.2.1) (λi ky v σ G hi=>?_) (λσ G=>?_)
  ·rintro⟨v3,rfl,hGd,hGh,hGk⟩;unfold mD at hi;rw[QA] at hi;obtain⟨y,hy,e1⟩:=XA.mp hi;obtain⟨rfl,rfl⟩:=Prod.mk.inj e1;obtain⟨s,hs,hsn⟩:=hP.liv e' he y (JA hy);have hu:({s with h:=s.h+(((e'.m.take i).map (·.2)).count s.n:Int)}:Sh)∈sD (e'.m.take i) S:=bA.mpr ⟨s,hs,rfl⟩;have nn:((sD (e'.m.take i) S).map Sh.n).Nodup:=by rw[Q8];exact hR.s.nn
   have hv:=eK nn hu;have hp':=hGk _ _ h13 (LC h13 hd2 (λz=>nomatch z)) (LC h13 hhd3 (λz=>nomatch z));have hmore:=R8 nn hu;have hstep:(sD (e'.m.take i) S).map (λu=>if u.n=s.n then {u with h:=u.h+1} else u)=sD (e'.m.take (i+1)) S:=by
    unfold sD;rw[lA];refine DA λu ο=>?_;show (if u.n=s.n then ({u with h:=u.h+_+1}:Sh) else {u with h:=u.h+_})={u with h:=u.h+_};rw[NA,hy,gA,qB];have c1:(((some y).toList.map (·.2):List Int)).count u.n=if s.n=u.n then 1 else 0:=by
     show ([y.2]:List Int).count u.n=_;rw[hsn,List.count_singleton];simp
    rw[c1];by_cases c:u.n=s.n
    ·rw[iA c,iA c.symm];congr 1;omega
    ·rw[fA c,fA (λz=>c z.symm)]
     rfl
   rfl';refine⟨_,dx,_,hp',T.Ac,T.Aj,_,XH,r.hd,rfl,_,.inl ⟨_,Sum.inl y.2,.inl hGh,rfl,by rw[<-hsn];exact hv.symm⟩,_,rfl,_,dx,_,hp',T.Ac,T.Aj,_,XH,r.hd,rfl,_,.inl ⟨_,Sum.inl y.2,hGh,rfl,by unfold MD sD;rw[cA,cA];omega,rfl⟩,by rw[vC nhd];exact hGd,?_,λc u h n1 n2=>by rw[vC n2];exact hGk c u h n1 n2⟩;rw[IC,<-hsn];exact congrArg (λz=>some (HO.dK z)) (hmore.trans (congrArg MD hstep))
  ·rintro⟨v3,rfl,hGd,hGh,hGk⟩;rw[show (mD e'.m).length=e'.m.length from cA .., VA] at hGh;unfold IH;dsimp only;rw[ie hGd];rfl';have fin:∀c u,H3 c=some u->c≠r.hd->jC G d (.dK (mD e'.m)) c=some u:=λc u h n1=>by
    by_cases c0:c=d
    ·rw[c0,IC,<-hd2,<-c0];exact h
    ·rw[vC c0];exact hGk c u h c0 n1
   have finh:jC G d (.dK (mD e'.m)) r.hd=some (.dK (MD (sD e'.m S))):=by rw[vC nhd.symm];exact hGh
   have find:jC G d (.dK (mD e'.m)) d=some (.dK (mD e'.m)):=IC;have aF:∀c u,H c=some u->c≠z.td->c≠r.pd->c≠r.hd->jC G d (.dK (mD e'.m)) c=some u:=λc u h n1 n2 n3=>fin c u (a3 c u h n1 n2) n3;have nF:∀c,jC G d (.dK (mD e'.m)) c=none->H c=none:=λc hc=>by
    cases e0:H c with
    |none=>rfl
    |some u=>
     exfalso;by_cases n3:c=r.hd
     ·rw[n3,finh] at hc;cases hc
     ·by_cases n2:c=r.pd
      ·rw[n2,fin _ _ hpd2 D.hp.symm] at hc;cases hc
      ·by_cases n1:c=z.td
       ·rw[n1,fin _ _ (k2 _ _ (s1 _ _ hH1.t) D.pt.symm) D.ht.symm] at hc;cases hc
       ·rw[aF c u e0 n1 n2 n3] at hc;cases hc
   generalize jC G d (.dK (mD e'.m))=F at *;have hdk:∀c∈OE r z es,H c≠none:=λc hc=>by
    unfold OE at hc;simp only[vA] at hc;rcases hc with rfl|rfl|rfl|rfl|rfl|rfl|hc
    ·rw[hR.s.s];exact λz=>nomatch z
    ·rw[hR.s.h];exact λz=>nomatch z
    ·rw[hR.pd];exact λz=>nomatch z
    ·rw[hR.bd];exact λz=>nomatch z
    ·rw[hR.h.t];exact λz=>nomatch z
    ·rw[hR.h.b];exact λz=>nomatch z
    ·obtain⟨u,hu,rfl⟩:=bA.mp hc;rw[hR.pe u hu];exact λz=>nomatch z
   have hpv2:RE (es++[⟨false,k,d,e'.m⟩])=RE es++[⟨false,k,d,e'.m⟩]:=by unfold RE;rw[JB];rfl
   have hbv2:uF (es++[⟨false,k,d,e'.m⟩])=uF es:=by unfold uF;rw[JB];exact GB _
   refine q k p d F hk hd0 ⟨?_,hR.gd,hR.ho,hR.sh,⟨⟨dx,fin _ _ h13 (LC h13 hhd3 (λz=>nomatch z))⟩,by rw[aM];exact aF _ _ hR.s.s D.st D.sp hR.s.ne,finh,λs hs=>?_,by rw[ZL];exact hR.s.nd,by rw[Q8];exact hR.s.nn,λs hs=>?_,hR.s.ne⟩,?_,?_,λu hu=>?_,?_,?_,?_,?_,λc hc=>?_,λc hc=>hR.dm c (nF c hc),λs hs=>?_,λu hu=>?_⟩ aF
   ·refine hH1.lo λc u h=>?_;by_cases n3:c=r.hd
    ·subst n3;rw[kd _ _ hR.s.h D.ht] at h;exact .inr (.inl (.inl ⟨_,(rA h).symm,D.ht,D.hb⟩))
    ·by_cases n2:c=r.pd
     ·subst n2;rw[hpd1] at h;exact .inr (.inl (.inl ⟨_,(rA h).symm,D.pt,D.pb⟩))
     ·exact .inl (fin c u (k2 _ _ (s1 _ _ h) n2) n3)
   ·obtain⟨u,hu,rfl⟩:=bA.mp hs;have hx:=hR.s.x u hu;exact aF _ _ hx (LC hx hR.h.t (λz=>nomatch z)) (LC hx hR.pd (λz=>nomatch z)) (LC hx hR.s.h (λz=>nomatch z))
   ·obtain⟨u,hu,rfl⟩:=bA.mp hs;exact hR.s.b u hu
   ·rw[hpv2];unfold FE;rw[gA];exact fin _ _ hpd2 D.hp.symm
   ·rw[hbv2];exact aF _ _ hR.bd D.bt D.px.symm D.hx.symm
   ·rcases dA.mp hu with h|h
    ·have Du:=D.e u h;exact aF _ _ (hR.pe u h) Du.2.2.2.2.1 Du.2.2.1 Du.2.1
    ·rw[aA.mp h];exact find
   ·rw[hpv2,gA,gA,hR.nm];rfl
   ·rw[hbv2];exact hR.bm
   ·rw[hbv2];exact hR.bn
   ·have e9:OE r z (es++[⟨false,k,d,e'.m⟩])=OE r z es++[d]:=by unfold OE;rw[gA];rfl
    rw[e9];exact zA.mpr ⟨hR.nd,by simp,λa ha b hb z=>hdk a ha (by rw[z,aA.mp hb];exact hd0)⟩
   ·rcases hc with rfl|hc|⟨s,hs,rfl⟩
    ·exact hR.ob _ (.inl rfl)
    ·have e9:OE r z (es++[⟨false,k,d,e'.m⟩])=OE r z es++[d]:=by unfold OE;rw[gA];rfl
     rw[e9] at hc;rcases dA.mp hc with h|h
     ·exact hR.ob _ (.inr (.inl h))
     ·rw[aA.mp h];exact hR.dm d hd0
    ·obtain⟨u,hu,rfl⟩:=bA.mp hs;exact hR.sb u hu
   ·obtain⟨u,hu,rfl⟩:=bA.mp hs;exact hR.sz u hu
   ·rcases dA.mp hu with h|h
    ·exact hR.ux u h
    ·rw[aA.mp h];exact hR.ux e' he
theorem RH.rebase {A:RC} {B H:Hp} {r:Ro} {z:Hz} {l f g:Int} {tks:List Tk} {bk:Kvs} {made:Int} {S:List Sh} {es:List Ho} (h:RH A B H r z l f g tks bk made S es):∃B',RH A B' H r z l f g tks bk made S es/\∀c,¬AE r z S es c->B' c=H c:=by
 refine⟨λc=>@ite _ (AE r z S es c) (Classical.propDecidable _) none (H c),⟨h.h,h.gd,h.ho,h.sh,h.s,h.pd,h.bd,h.pe,h.nm,h.bm,h.bn,h.nd,λc hc=>iA hc,λc hc=>?_,h.sz,h.ux⟩,λc hc=>fA hc⟩;by_cases o:AE r z S es c
 ·exact iA o
 ·exact (fA o).trans hc
theorem RB.rh {A:RC} {H:Hp} {r:Ro} {z:Hz} {l f g:Int} {tks:List Tk} {pv:List Pv} (h:RB A H r z l f g tks pv) (hb:H r.bd=some (.dK [])) (nb:r.bd∉EF r z pv):∃B,RH A B H r z l f g tks [] 0 [] (pv.map λe=>⟨false,e.n,e.d,[]⟩)/\PC [] (pv.map λe=>⟨false,e.n,e.d,[]⟩)/\∀c,¬AE r z [] (pv.map λe=>⟨false,e.n,e.d,[]⟩) c->B c=H c:=by
 have hp:RE (pv.map λe=>(⟨false,e.n,e.d,[]⟩:Ho))=pv.map λe=>⟨false,e.n,e.d,[]⟩:=by
  unfold RE;exact List.filter_eq_self.mpr λu hu=>by obtain⟨e,_,rfl⟩:=bA.mp hu;rfl
 have hq:uF (pv.map λe=>(⟨false,e.n,e.d,[]⟩:Ho))=[]:=by
  unfold uF;exact List.filter_eq_nil_iff.mpr λu hu=>by obtain⟨e,_,rfl⟩:=bA.mp hu;exact wA
 have hd:(pv.map λe=>(⟨false,e.n,e.d,[]⟩:Ho)).map Ho.d=pv.map Pv.d:=by rw[lA];rfl
 have hnd:(OE r z (pv.map λe=>(⟨false,e.n,e.d,[]⟩:Ho))).Nodup:=by
  have n0:=h.nd;unfold EF at n0 nb;unfold OE;rw[hd];simp only[OA,vA,not_or] at n0 nb ⊢;obtain⟨⟨a1,a2,a3,a4,a5⟩,⟨b1,b2,b3,b4⟩,⟨c1,c2,c3⟩,d1,e1,f1⟩:=n0;obtain⟨g1,g2,g3,g4,g5,g6⟩:=nb;exact⟨⟨a1,a2,λq=>g1 q.symm,a3,a4,a5⟩,⟨b1,λq=>g2 q.symm,b2,b3,b4⟩,⟨λq=>g3 q.symm,c1,c2,c3⟩,⟨g4,g5,g6⟩,d1,e1,f1⟩
 have base:RH A (λο=>none) H r z l f g tks [] 0 [] (pv.map λe=>⟨false,e.n,e.d,[]⟩):=by
  refine⟨h.h,h.gd,h.ho,h.sh,h.s,?_,?_,λu hu=>?_,?_,?_,?_,hnd,λο ο=>rfl,λο ο=>rfl,(λs hs=>by cases hs),λu hu=>?_⟩
  ·rw[hp,h.pd];unfold qG FE;rw[lA]
   rfl
  ·rw[hq];exact hb
  ·obtain⟨e,he,rfl⟩:=bA.mp hu;exact (h.pe e he).2
  ·rw[hp,lA];exact h.nm
  ·rw[hq];rfl
  ·rw[hq];exact .nil
  ·obtain⟨e,_,rfl⟩:=bA.mp hu;exact .nil
 obtain⟨B,hB,hB2⟩:=base.rebase;exact⟨B,hB,⟨(λu hu y hy=>by obtain⟨e,_,rfl⟩:=bA.mp hu;cases hy),(λs hs=>by cases hs),(λs hs=>by cases hs)⟩,hB2⟩
def AD (S:List Sh) (k:Int):Option (List Int):=(S.find? λs=>decide (s.n=k)).map Sh.xs
theorem kH {S:List Sh} {s:Sh} (nn:(S.map Sh.n).Nodup) (hs:s∈S):AD S s.n=some s.xs:=by
 unfold AD;cases e1:S.find? λu=>decide (u.n=s.n) with
 |none=>exact absurd (nA (rfl:s.n=s.n)) (kB.mp e1 _ hs)
 |some y=>
  have h1:=sB e1;have h2:=WA e1;rw[cE nn h2 hs (UA h1)]
  rfl
def BC (g:Int) (S:List Sh) (e:Ho) (x:Int):List Int:=((mC e x).bind (AD S)).getD (List.replicate (pw g).toNat 0)
theorem RH.no {A:RC} {B H:Hp} {r:Ro} {z:Hz} {l f g:Int} {tks:List Tk} {bk:Kvs} {made:Int} {S:List Sh} {es:List Ho} (_:RH A B H r z l f g tks bk made S es) {c:Addr} (no:¬AE r z S es c):c≠r.p/\(c≠r.sd/\c≠r.hd/\c≠r.pd/\c≠r.bd/\c≠z.td/\c≠z.bd)/\c∉es.map Ho.d/\∀s∈S,c≠s.a:=by
 have n2:c∉OE r z es:=λq=>no (.inr (.inl q));unfold OE at n2;simp only[vA,not_or] at n2;exact⟨λq=>no (.inl q),⟨n2.1,n2.2.1,n2.2.2.1,n2.2.2.2.1,n2.2.2.2.2.1,n2.2.2.2.2.2.1⟩,n2.2.2.2.2.2.2,λs hs q=>no (.inr (.inr ⟨s,hs,q⟩))⟩
theorem RH.nb {A:RC} {B H:Hp} {r:Ro} {z:Hz} {l f g:Int} {tks:List Tk} {bk:Kvs} {made:Int} {S:List Sh} {es:List Ho} (h:RH A B H r z l f g tks bk made S es) {c:Addr} (nc:B c≠none):¬AE r z S es c:=λo=>nc (h.ob c o)
theorem RH.kd {A:RC} {B H H':Hp} {r:Ro} {z:Hz} {l f g:Int} {tks:List Tk} {bk:Kvs} {made:Int} {S:List Sh} {es:List Ho} (h:RH A B H r z l f g tks bk made S es) {c:Addr} {o o':HO} (hc:H c=some o) (no:¬AE r z S es c) (ho:(∃kvs,o=.dK kvs)\/(∃kvs,o=.dT kvs)\/∃i vs,o=.lst (V.int i::vs)) (k:Kd c H H') (h':H' c=some o'):RH A B H' r z l f g tks bk made S es:=by
 obtain⟨n1,⟨n2,n3,n4,n5,n6,n7⟩,n8,n9⟩:=h.no no;obtain⟨dx,h1⟩:=h.s.me;refine⟨h.h.lo λb u e=>?_,h.gd,h.ho,h.sh,⟨⟨dx,k _ _ h1 n1.symm⟩,k _ _ h.s.s n2.symm,k _ _ h.s.h n3.symm,λs hs=>k _ _ (h.s.x s hs) (n9 s hs).symm,h.s.nd,h.s.nn,h.s.b,h.s.ne⟩,k _ _ h.pd n4.symm,k _ _ h.bd n5.symm,λe he=>k _ _ (h.pe e he) (λq=>n8 (bA.mpr ⟨e,he,q⟩)),h.nm,h.bm,h.bn,h.nd,h.ob,λb hb=>h.dm b (WI k h' b hb),h.sz,h.ux⟩;by_cases q:b=c
 ·subst q;rw[hc] at e;have e:=rA e;rcases ho with ⟨kv,q⟩|⟨kv,q⟩|⟨i,vs,q⟩
  ·exact .inr (.inl (.inl ⟨kv,by rw[<-e,q],n6,n7⟩))
  ·exact .inr (.inr (.inr ⟨kv,by rw[<-e,q]⟩))
  ·exact .inr (.inr (.inl ⟨i,vs,by rw[<-e,q]⟩))
 ·exact .inl (k _ _ e q)
theorem RH.ex {A:RC} {B H:Hp} {r:Ro} {z:Hz} {l f g:Int} {tks:List Tk} {bk:Kvs} {made:Int} {S:List Sh} {es:List Ho} (h:RH A B H r z l f g tks bk made S es) {c:Addr} (hc:H c=none):¬AE r z S es c:=by
 obtain⟨dx,h1⟩:=h.s.me;rintro (rfl|q|⟨s,hs,rfl⟩)
 ·rw[h1] at hc;cases hc
 ·unfold OE at q;simp only[vA] at q;rcases q with rfl|rfl|rfl|rfl|rfl|rfl|q
  ·rw[h.s.s] at hc;cases hc
  ·rw[h.s.h] at hc;cases hc
  ·rw[h.pd] at hc;cases hc
  ·rw[h.bd] at hc;cases hc
  ·rw[h.h.t] at hc;cases hc
  ·rw[h.h.b] at hc;cases hc
  ·obtain⟨e,he,rfl⟩:=bA.mp q;rw[h.pe e he] at hc;cases hc
 ·rw[h.s.x s hs] at hc;cases hc
theorem ZE {H:Hp} {a:Addr} {o:HO} (h:H a=none):uC H (jC H a o)/\jC H a o a=some o:=⟨bE LD h,IC⟩
theorem Vh {A:RC} {B H:Hp} {r:Ro} {z:Hz} {l f g:Int} {tks:List Tk} {bk:Kvs} {made:Int} {S:List Sh} {es:List Ho} (h:RH A B H r z l f g tks bk made S es) {d:Addr} (hd:H d=none):d∉OE r z es:=λq=>h.ex hd (.inr (.inl q))
inductive T8 (A:RC) (vs:List V) (H:Hp) (Q:VK) (E:XK):Prop where
 |mk (B:Hp) (r:Ro) (z:Hz) (l f g:Int) (tks:List Tk) (bk:Kvs) (made:Int) (S:List Sh) (es:List Ho) (m:Int) (_:vs=[.ref r.p,.int m]) (_:RH A B H r z l f g tks bk made S es) (_:(1<=m/\m<=64)) (_:bk.length < 1000) (_:∀(k:Nat) (d:Addr) (H':Hp),UH (zD bk) k->H d=none->RH A B H' r z l f g tks (bk++[(Sum.inl (k:Int),.int m)]) made S (es++[⟨true,k,d,[]⟩])->(∀c o,H c=some o->c≠z.bd->c≠r.bd->H' c=some o)->Q (.int k) H'):T8 A vs H Q E
def bM (A:RC):Sp:=T8 A
theorem MO (T:fD K mg A):AC P w K mg base A.Ab "new_bank" 5 ["self","many"] [] (bM A):=by
 have E0:=@bU P w K mg base A T;refine T.Ek.have O6 (λvs H Q E z=>?_) ?_
 ·obtain⟨B,r,z,l,f,g,tks,bk,made,S,es,m,rfl,_⟩:=z;rfl
 ·intro f cdv A' outer s H vs Q E hr z;obtain⟨B,r,z,l,f',g,tks,bk,made,S,es,m,rfl,hR,hm,hl,q⟩:=z;obtain⟨dx,h1⟩:=hR.s.me;obtain⟨dxh,h2⟩:=hR.h.me;have D:=UL hR.nd;refine⟨_,(CC (iD (i:=2) O6.nd rfl (Or.inl rfl) (HD (cD (eC 0) rfl) T.Ag E0 (hr.mono (by decide)) GC (iC (eC 1) rC)))
   (CC (QF (dD hr) (cD (eC 0) rfl) (eC 2) JI rfl)
   (FC (uD (eC 2))))),?_⟩
  unfold ND;rfl';simp only[h1];rfl';refine⟨T.Ac,T.Ap,_,bK,r.ho,rfl,dxh,_,by rw[hR.ho];exact h2,DF ∅,z,l,f',g,tks,bk,m,by rw[hR.ho],hR.h,hl,.inl ⟨hm,λk H1 hL hS1 kd d hd=>?_⟩⟩;have hz:=PySem.sizeLine_eq;have hd0:H d=none:=WI kd hS1.b d hd;obtain⟨s2,g2⟩:=ZE (o:=.dK []) hd;have h12:=s2 _ _ (kd _ _ h1 (LC h1 hR.h.b (λz=>nomatch z)));have hbd2:=s2 _ _ (kd _ _ hR.bd D.bb);have hS2:=hS1.same s2;have keep:∀c o,H c=some o->c≠z.bd->jC H1 d (.dK []) c=some o:=λc o h n=>s2 _ _ (kd _ _ h n);generalize jC H1 d (.dK [])=H2 at *;have hkl:(FE (uF es)).length=bk.length:=by
   have:=congrArg List.length hR.bm;unfold zD at this;rw[cA,cA] at this;unfold FE;rw[cA,this]
  have hks:zD (FE (uF es))=zD bk:=by
   rw[<-hR.bm];unfold zD FE;rw[lA];rfl
  refine⟨_,dx,_,h12,T.Ac,T.A8,_,fU,r.bd,rfl,_,.inl ⟨_,Sum.inl (k:Int),hbd2,rfl,⋯,rfl⟩,?_⟩;rw[HL (by rw[hks];exact hL.1)];have ndb:d≠r.bd:=λe=>by rw[e,hR.bd] at hd0;cases hd0
  have hpv2:RE (es++[⟨true,k,d,[]⟩])=RE es:=by unfold RE;rw[JB];exact GB _
  have hbv2:uF (es++[⟨true,k,d,[]⟩])=uF es++[⟨true,k,d,[]⟩]:=by unfold uF;rw[JB];rfl
  have k3:Kd r.bd H2 (jC H2 r.bd (.dK (FE (uF es)++[(Sum.inl (k:Int),V.ref d)]))):=sE;have g3:jC H2 r.bd (.dK (FE (uF es)++[(Sum.inl (k:Int),V.ref d)])) r.bd=some (.dK (FE (uF es)++[(Sum.inl (k:Int),V.ref d)])):=IC;generalize jC H2 r.bd (.dK (FE (uF es)++[(Sum.inl (k:Int),V.ref d)]))=H3 at *;have aF:∀c o,H c=some o->c≠z.bd->c≠r.bd->H3 c=some o:=λc o h n1 n2=>k3 _ _ (keep c o h n1) n2;have nF:∀c,H3 c=none->H c=none:=λc hc=>by
   cases e0:H c with
   |none=>rfl
   |some o=>
    exfalso;by_cases n1:c=z.bd
    ·rw[n1,k3 _ _ hS2.b D.bb.symm] at hc;cases hc
    ·by_cases n2:c=r.bd
     ·rw[n2,g3] at hc;cases hc
     ·rw[aF c o e0 n1 n2] at hc;cases hc
  have e9:OE r z (es++[⟨true,k,d,[]⟩])=OE r z es++[d]:=by unfold OE;rw[gA];rfl
  have hkn:(k:Int)∉(uF es).map Ho.n:=λq=>hL.1 (by
   obtain⟨u,hu,e⟩:=bA.mp q;rw[<-hR.bm,<-e];exact bA.mpr ⟨u,hu,rfl⟩)
  refine q k d H3 hL hd0 ⟨?_,hR.gd,hR.ho,hR.sh,⟨⟨dx,k3 _ _ h12 (LC h12 hbd2 (λz=>nomatch z))⟩,aF _ _ hR.s.s D.sb D.sx,aF _ _ hR.s.h D.hb D.hx,λs hs=>?_,hR.s.nd,hR.s.nn,hR.s.b,hR.s.ne⟩,by rw[hpv2];exact aF _ _ hR.pd D.pb D.px,?_,λu hu=>?_,by rw[hpv2];exact hR.nm,?_,?_,?_,λc hc=>?_,λc hc=>hR.dm c (nF c hc),hR.sz,λu hu=>?_⟩ aF
  ·exact hS2.lo λc o e=>by
    by_cases n:c=r.bd
    ·subst n;rw[hbd2] at e;exact .inr (.inl (.inl ⟨_,(rA e).symm,D.bt,D.bb⟩))
    ·exact .inl (k3 _ _ e n)
  ·have hx:=hR.s.x s hs;exact aF _ _ hx (LC hx hR.h.b (λz=>nomatch z)) (LC hx hR.bd (λz=>nomatch z))
  ·rw[hbv2];unfold FE;rw[gA];exact g3
  ·rcases dA.mp hu with h|h
   ·have Du:=D.e u h;exact aF _ _ (hR.pe u h) Du.2.2.2.2.2 Du.2.2.2.1
   ·rw[aA.mp h];exact k3 _ _ g2 ndb
  ·rw[hbv2,gA,hR.bm];unfold zD;rw[gA];rfl
  ·rw[hbv2,gA];exact zA.mpr ⟨hR.bn,by simp,λa ha b hb z=>hkn (by rw[z,aA.mp hb] at ha;exact ha)⟩
  ·rw[e9];exact zA.mpr ⟨hR.nd,by simp,λa ha b hb z=>Vh hR hd0 (by rw[z,aA.mp hb] at ha;exact ha)⟩
  ·rcases hc with rfl|hc|⟨s,hs,rfl⟩
   ·exact hR.ob _ (.inl rfl)
   ·rw[e9] at hc;rcases dA.mp hc with h|h
    ·exact hR.ob _ (.inr (.inl h))
    ·rw[aA.mp h];exact hR.dm d hd0
   ·exact hR.sb s hs
  ·rcases dA.mp hu with h|h
   ·exact hR.ux u h
   ·rw[aA.mp h];exact .nil
theorem RH.laid {A:RC} {B H H':Hp} {r:Ro} {z:Hz} {l f g:Int} {tks:List Tk} {bk:Kvs} {made:Int} {S:List Sh} {es:List Ho} {t:Tk} {rs:List Rn} (h:RH A B H r z l f g tks bk made S es) (ht:t∈tks) (hS:WD A H' z l f g (gF t.n rs tks) bk) (k:Bu t.p H H'):RH A B H' r z l f g (gF t.n rs tks) bk made S es:=by
 obtain⟨a,⟨dx2,vs2,p1,p2,p3⟩,_⟩:=h.h.st t ht;obtain⟨dx,h1⟩:=h.s.me;have ntp:∀{c:Addr} {kvs:Kvs},H c=some (.dK kvs)->H' c=some (.dK kvs):=λh=>k _ _ h (LC h p1 (λz=>nomatch z));have nrp:r.p≠t.p:=λe=>by
  rw[e,p1] at h1;have w:=uQ (sh:=r.sh) (most:=r.most) (ho:=r.ho) (sd:=r.sd) (hd:=r.hd) (made:=made) (pd:=r.pd) (bd:=r.bd);rw[<-(HO.ins.inj (rA h1)).2.2,cG ∅] at w;cases w
 obtain⟨a9,⟨dx9,vs9,p9,_⟩,_⟩:=hS.st {t with rs:=rs} (bA.mpr ⟨t,ht,iA rfl⟩);refine⟨hS,h.gd,h.ho,h.sh,⟨⟨dx,k _ _ h1 nrp⟩,ntp h.s.s,ntp h.s.h,λs hs=>k _ _ (h.s.x s hs) (LC (h.s.x s hs) p1 (λz=>nomatch z)),h.s.nd,h.s.nn,h.s.b,h.s.ne⟩,ntp h.pd,ntp h.bd,λe he=>ntp (h.pe e he),by rw[T7];exact h.nm,h.bm,h.bn,h.nd,h.ob,λc hc=>h.dm c (WI k p9 c hc),h.sz,h.ux⟩
inductive U8 (A:RC) (vs:List V) (H:Hp) (Q:VK) (E:XK):Prop where
 |mk (B:Hp) (r:Ro) (z:Hz) (l f g:Int) (tks:List Tk) (bk:Kvs) (made:Int) (S:List Sh) (es:List Ho) (n x m rt st:Int) (b:Option Int) (t:Tk) (_:vs=[.ref r.p,.int n,.int x,.int m,.int rt,bV b,.int st]) (_:RH A B H r z l f g tks bk made S es) (_:t∈tks) (_:t.n=n) (_:yE x m (pw (l * f))=true) (_:(0<=rt/\rt<=3)) (_:(∀b',b=some b'->∃i:Int,gC bk (Sum.inl b')=some (.int i)/\0<=st/\st<=i - m)) (_:lG t.rs x m=[]) (_:qD (ZJ t.rs x m rt (yF b st))) (_:(ZJ t.rs x m rt (yF b st)).length<=10000) (_:∀H',RH A B H' r z l f g (gF n (ZJ t.rs x m rt (yF b st)) tks) bk made S es->Bu t.p H H'->Q .non H'):U8 A vs H Q E
def AQ (A:RC):Sp:=U8 A
theorem V8 (T:fD K mg A):eF P w K mg base "Rooms.lay" PH ["self","task","first","many","rights","bank","start"] 9 (AQ A):=by
 have Jc:=@ML P w K mg base A T;intro f cdv A' outer s H vs Q E hr z;obtain⟨B,r,z,l,f',g,tks,bk,made,S,es,n,x,m,rt,st,b,t,rfl,hR,ht,hn,hf,hrt,hb,hp,ho,hl,q⟩:=z;obtain⟨dx,h1⟩:=hR.s.me;obtain⟨dxh,h2⟩:=hR.h.me;refine⟨_,(FC (GE (HD (cD (eC 0) rfl) T.Ag Jc (hr.mono (by decide)) GC (@iC _ _ _ _ _ (eC 1) (@iC _ _ _ _ _ (eC 2) (@iC _ _ _ _ _ (eC 3) (@iC _ _ _ _ _ (eC 4) (@iC _ _ _ _ _ (eC 5) (@iC _ _ _ _ _ (eC 6) rC rfl) rfl) rfl) rfl) rfl) rfl)))),?_⟩;rfl';simp only[h1];rfl';exact⟨T.Ac,T.Ap,_,bK,r.ho,rfl,dxh,_,by rw[hR.ho];exact h2,DF ∅,z,l,f',g,tks,bk,n,x,m,rt,st,b,by rw[hR.ho],hR.h,.inr (.inr ⟨by rw[<-hn];exact SI ht,hf,.inr ⟨hrt,.inr ⟨hb,t,ht,hn,.inr ⟨hp,ho,hl,λH1 hS1 hB=>q H1 (by rw[<-hn] at hS1 ⊢;exact hR.laid ht hS1 hB) hB⟩⟩⟩⟩)⟩
theorem W8 {A:RC}:∀vs H Q E,AQ A vs H Q E->vs.length=7:=λvs H Q E z=>by
 obtain⟨B,r,z,l,f',g,tks,bk,made,S,es,n,x,m,rt,st,b,t,rfl,_⟩:=z;rfl
theorem Wh (T:fD K mg A):AC P w K mg base A.Ab "lay" 10 ["self","task","first","many","rights","bank","start"] [] (AQ A):=T.Iy.have P6 W8 (V8 T)
theorem Xh (T:fD K mg A):AC P w K mg base A.Ab "lay" 10 ["self","task","first","many","rights","bank","start"] [.non,.int 0] (AQ A):=T.Hf.have P6 W8 (V8 T)
def lH (n:Int) (p:Pg):Bool×Int×Int:=match p.2.2 with|none=>(false,n,p.1)|some (b,y)=>(true,b,y)
def X8 (g:Int) (S:List Sh) (es:List Ho) (n:Int) (p:Pg) (xs:List Int):Prop:=∃e∈es,e.k=(lH n p).1/\e.n=(lH n p).2.1/\xs=BC g S e (lH n p).2.2
inductive Y8 (A:RC) (vs:List V) (H:Hp) (Q:VK) (E:XK):Prop where
 |mk (B:Hp) (r:Ro) (z:Hz) (l f g:Int) (tks:List Tk) (bk:Kvs) (made:Int) (S:List Sh) (es:List Ho) (n:Int) (p:Pg) (tv:V) (xs:List Int) (t:Tk) (_:vs=[.ref r.p,.int n,.int p.1,tv]) (_:RH A B H r z l f g tks bk made S es) (_:PC S es) (_:t∈tks) (_:t.n=n) (_:rD H tv p.2.2) (_:X8 g S es n p xs) (_:∀a H',uC H H'->H a=none->H' a=some (.lst (xs.map V.int))->Q (.ref a) H'):Y8 A vs H Q E
def cM (A:RC):Sp:=Y8 A
theorem NO (T:fD K mg A):AC P w K mg base A.Ab "shown" 3 ["self","task","page","tie"] [] (cM A):=by
 have Bj:=@gK P w K mg base A T;refine T.Gn.have SS (λvs H Q E z=>?_) ?_
 ·obtain⟨B,r,z,l,f,g,tks,bk,made,S,es,n,p,tv,xs,t,rfl,_⟩:=z;rfl
 ·intro f cdv A' outer s H vs Q E hr z;obtain⟨B,r,z,l,f',g,tks,bk,made,S,es,n,⟨x,rt,tie⟩,tv,xs,t,rfl,hR,hP,ht,hn,hT,⟨e,he,hek,hen,rfl⟩,q⟩:=z;obtain⟨dx,h1⟩:=hR.s.me;have hv:=OM (hR.ux e he) (lH n (x,rt,tie)).2.2;have fin:∃o,YD H e.d (V.int (lH n (x,rt,tie)).2.2) o/\if o.getD V.non=V.non then List.lookup (Str.ofString "noughts") (tF r.sh r.most r.ho r.sd r.hd made r.pd r.bd)=none/\gU A [V.ref r.p] H Q λc x H'=>E c none H' else OF K A.Ab/\OC K A.Ab (Str.ofString "sheets")/\∃x,List.lookup (Str.ofString "sheets") (tF r.sh r.most r.ho r.sd r.hd made r.pd r.bd)=some x/\∃a,x=V.ref a/\∃x,YD H a (o.getD V.non) (some x)/\∃p,x=V.ref p/\∃x,(QC K H p x\/ZC K H p x)/\∀(l:Addr),H l=none->Q (V.ref l) (jC H l (HO.lst x)):=by
   refine⟨_,.inl ⟨mD e.m,Sum.inl _,.inl (hR.pe e he),rfl,rfl⟩,?_⟩;rw[hv];cases e0:mC e (lH n (x,rt,tie)).2.2 with
   |some k=>
    obtain⟨s,hs,e1⟩:=hP.liv e he _ ((OD (hR.ux e he)).mp e0);have e1:s.n=k:=e1;subst e1;have e5:BC g S e (lH n (x,rt,tie)).2.2=s.xs:=by unfold BC;rw[e0];show ((AD S s.n).getD _)=_;rw[kH hR.s.nn hs];rfl
    rw[e5] at q;show if V.int s.n=V.non then _ else _
    rw[fA (λz=>nomatch z)];exact⟨T.Ac,T.Ai,_,WH,r.sd,rfl,_,.inl ⟨_,Sum.inl s.n,.inl hR.s.s,rfl,(MM hR.s.nn hs).symm⟩,s.a,rfl,_,.inl (QC.of (hR.s.x s hs)),λl hl=>q l _ (bE LD hl) hl IC⟩
   |none=>
    have e5:BC g S e (lH n (x,rt,tie)).2.2=List.replicate (pw g).toNat 0:=by unfold BC;rw[e0];rfl
    rw[e5] at q;have hshp:=hR.h.sh;rw[<-hR.sh] at hshp;show if V.non=V.non then _ else _
    rw[iA rfl];exact⟨QE ∅,r,made,S,l,f',g,rfl,hR.s,hshp,hR.gd,q⟩
  have isD:FM H e.d:=.inl ⟨_,.inl (hR.pe e he)⟩;refine⟨_,(CC (iD (i:=4) SS.nd rfl (Or.inl rfl) (CM (pE fI (eC 3) ZF (wC _)) (VD (dD hr) (cD (eC 0) rfl) (eC 1) (λο ο=>rfl)) (VD (dD hr) (cD (eC 0) rfl) (GD fE (eC 3) yC (λο ο=>rfl)) (λο ο=>rfl))))
   (CC (iD (i:=5) SS.nd rfl (Or.inl rfl) (Tc (dD hr) (eC 4) (CM (pE fI (eC 3) ZF (wC _)) (eC 2) (GD fE (eC 3) yC (λο ο=>rfl))) ⟨rfl,rfl,rfl,rfl⟩))
   (FC (uD (CM (pE fI (eC 5) ZF (wC _)) (mI (eC 0) T.Ac Bj (hr.mono (by decide)) GC) (iI GN rfl T.B7 DB (iC (VD (dD hr) (cD (eC 0) rfl) (eC 5) (λο ο=>rfl)) rC))))))),?_⟩
  unfold pD xH;rfl';simp only[h1];rfl';cases tie with
  |none=>
   obtain rfl:tv=.non:=hT;obtain⟨e',he',k1,k2,hpv⟩:=hR.pv ht;obtain rfl:e'=e:=hR.one he' he (by rw[k1,hek];rfl) (by rw[k2,hn,hen];rfl);rw[hn] at hpv;rw[iA rfl];refine⟨T.Ac,T.Al,_,UI,r.pd,rfl,_,.inl ⟨_,Sum.inl n,.inl hR.pd,rfl,hpv.symm⟩,e'.d,rfl,isD,?_⟩;rw[iA rfl];exact fin
  |some by'=>
   obtain⟨b,y⟩:=by';obtain⟨ta,rfl,hta⟩:=hT;have hbv:=hR.bv he hek;rw[hen] at hbv;rw[fA (λz=>nomatch z)];refine⟨T.Ac,T.A8,_,fU,ta,rfl,_,ZC.of hta,_,FI (j:=0) rfl,r.bd,rfl,_,.inl ⟨_,Sum.inl b,.inl hR.bd,rfl,hbv.symm⟩,e.d,rfl,isD,?_⟩;rw[fA (λz=>nomatch z)];exact⟨ta,rfl,_,ZC.of hta,_,FI (j:=1) rfl,fin⟩
def lK (H0 H:Hp) (v:V) (x rt:Int) (xs:List Int):Prop:=∃a c,v=.ref a/\H a=some (.tup [.int x,.int rt,.ref c])/\H c=some (.lst (xs.map V.int))/\H0 c=none
inductive Z8 (A:RC) (vs:List V) (H:Hp) (Q:VK) (E:XK):Prop where
 |mk (B:Hp) (r:Ro) (z:Hz) (l f g:Int) (tks:List Tk) (bk:Kvs) (made:Int) (S:List Sh) (es:List Ho) (n:Int) (t:Tk) (R:Pg->List Int) (_:vs=[.ref r.p,.int n]) (_:RH A B H r z l f g tks bk made S es) (_:PC S es) (_:t∈tks) (_:t.n=n) (_:(∀r∈t.rs,0<=r.f/\0<=r.m/\aD r<=100000000)) (_:(WF t.rs).length<=9000) (_:(∀p∈WF t.rs,X8 g S es n p (R p))) (_:∀b us H',uC H H'->H b=none->H' b=some (.lst us)->Paired (λv (p:Pg)=>lK H H' v p.1 p.2.1 (R p)) us (WF t.rs)->Q (.ref b) H'):Z8 A vs H Q E
def dM (A:RC):Sp:=Z8 A
theorem OO (T:fD K mg A):AC P w K mg base A.Ab "seen_by" 5 ["self","task"] [] (dM A):=by
 have E4:=@iU P w K mg base A T;have Gx:=@NO P w K mg base A T;refine T.E8.have dg (λvs H Q E z=>?_) ?_
 ·obtain⟨B,r,z,l,f,g,tks,bk,made,S,es,n,t,R,rfl,_⟩:=z;rfl
 ·intro f cdv A' outer s H vs Q E hr z;obtain⟨B,r,z,l,f',g,tks,bk,made,S,es,n,t,R,rfl,hR,hPC,ht,hn,hrs,hpl,hrw,q⟩:=z;obtain⟨dx,h1⟩:=hR.s.me;obtain⟨dxh,h2⟩:=hR.h.me;refine⟨_,(FC (uD (we rfl (BI (HD (cD (eC 0) rfl) T.Ag E4 (hr.mono (by decide)) GC (iC (eC 1) rC))) (x:="page") (xs:=["page","rights","tie"]) (fs:=["self","task"]) (ix:=[0,1]) rfl rfl (λο ο ο ο ο ο=>(ye (K:=K) (n:=3) rfl rfl (pN (wF (i:=0) (show (["page","rights","tie","self","task"]:List Str).Nodup by decide+kernel) rfl (Or.inl rfl)) (pN (wF (i:=1) (show (["page","rights","tie","self","task"]:List Str).Nodup by decide+kernel) rfl (Or.inl rfl)) (pN (wF (i:=2) (show (["page","rights","tie","self","task"]:List Str).Nodup by decide+kernel) rfl (Or.inl rfl)) W1))))) (λο ο ο ο ο ο=>wR) (λο ο ο ο ο ο=>(NG (iC (eC 0) (iC (eC 1) (iC (HD (eC 3) T.Ac Gx (hr.mono (by decide)) dL (iC (eC 4) (iC (eC 0) (iC (eC 2) rC)))) rC)))))))),?_⟩;rfl';simp only[h1];rfl';refine⟨T.Ac,T.Ap,_,bK,r.ho,rfl,dxh,_,by rw[hR.ho];exact h2,DF ∅,z,l,f',g,tks,bk,n,t,by rw[hR.ho],hR.h,ht,hn,hrs,⋯,λb us H1 s1 hb hb1 hP=>?_⟩;rfl';have hul:us.length=(WF t.rs).length:=Paired.length hP;refine⟨⟨_,QC.of hb1⟩,λD hD=>cQ (K:=K) (xs:=us) (λi ys σ H'=>∃v0 v1 v2,σ=[v0,v1,v2,some (.ref r.p),some (.int n)]/\uC H1 H'/\H' D=some (.lst ys)/\Paired (λv (p:Pg)=>lK H1 H' v p.1 p.2.1 (R p)/\∀a c,v=.ref a->H' a=some (.tup [.int p.1,.int p.2.1,.ref c])->c≠D) ys ((WF t.rs).take i)) ⟨_,_,_,rfl,bE LD hD,IC,.nil⟩ (λi ys σ H' _ zz=>by obtain⟨_,_,_,zz⟩:=zz;exact QC.of (zz.2.1 _ _ hb1)) (λi v ys σ H' hi=>?_) (λys σ H'=>?_)⟩
  ·rintro⟨v0,v1,v2,rfl,s2,hD2,hY⟩;obtain⟨p,hp1,a,tv,rfl,ha,hT⟩:=RI hP hi;have hil:=(IA.mp hi).1;have htk:(WF t.rs).take (i+1)=(WF t.rs).take i++[p]:=by rw[NA,hp1];rfl
   have hyl:=Paired.length hY;rw[cB] at hyl;have s02:=s1.trans s2;have hz:=PySem.sizeLine_eq;rfl';refine⟨_,ZC.of (s2 _ _ ha),rfl,_,_,rfl,_,_,rfl,_,_,rfl,rfl,dx,_,s02 _ _ h1,QE ∅,B,r,z,l,f',g,tks,bk,made,S,es,n,p,tv,R p,t,rfl,hR.same s02,hPC,ht,hn,hT.same s2,hrw p (JA hp1),λc H2 s3 hc hc2 np hnp=>?_⟩;have s4:=bE (o:=.tup [V.int p.1,V.int p.2.1,V.ref c]) (LD (H:=H2)) hnp;have hnp4:jC H2 np (.tup [V.int p.1,V.int p.2.1,V.ref c]) np=some (.tup [V.int p.1,V.int p.2.1,V.ref c]):=IC;generalize jC H2 np (.tup [V.int p.1,V.int p.2.1,V.ref c])=H4 at *;have hD4:=s4 _ _ (s3 _ _ hD2);have hc4:=s4 _ _ hc2;have k5:Kd D H4 (jC H4 D (.lst (ys++[V.ref np]))):=sE;have ncD:c≠D:=(bD hD2 hc).symm;refine⟨hD4,⋯,SH ((s2.trans s3).trans s4) hD,?_⟩;rw[htk];refine DO (VI hY λv p' h=>?_) (.cons ⟨⟨np,c,rfl,k5 _ _ hnp4 (LC hnp4 hD4 (λz=>nomatch z)),k5 _ _ hc4 ncD,VF s2 hc⟩,λa2 c2 e7 e8=>?_⟩ .nil)
   ·obtain⟨⟨a1,c1,e2,e3,e4,e5⟩,e6⟩:=h;have e3':=k5 _ _ (s4 _ _ (s3 _ _ e3)) (LC (s4 _ _ (s3 _ _ e3)) hD4 (λz=>nomatch z));refine⟨⟨a1,c1,e2,e3',k5 _ _ (s4 _ _ (s3 _ _ e4)) (e6 a1 c1 e2 e3),e5⟩,λa2 c2 e7 e8=>?_⟩;rw[e2] at e7;cases e7;rw[e3'] at e8;cases e8;exact e6 _ _ e2 e3
   ·cases e7;rw[k5 _ _ hnp4 (LC hnp4 hD4 (λz=>nomatch z))] at e8;cases e8;exact ncD
  ·rintro⟨v0,v1,v2,rfl,s2,hD2,hY⟩;rw[hul,VA] at hY;exact q D ys H' (s1.trans s2) (VF s1 hD) hD2 (VI hY λv p h=>let ⟨a,c,e1,e2,e3,e4⟩:=h.1;⟨a,c,e1,e2,e3,VF s1 e4⟩)
theorem Yh {es:List Ho} {e:Ho} {x k made:Int} (nd:(es.map Ho.d).Nodup) (un:∀e'∈es,e'.k=e.k->e'.n=e.n->e'=e) (he:e∈es) (nx:(e.m.map (·.1)).Nodup) (hx:(x,k)∈e.m) (j:Int):(ED (WC e.k e.n ((e.m.filter λy=>decide (y.1≠x))++[(x,made)]) es)).count j+(if k=j then 1 else 0)=(ED es).count j+if made=j then 1 else 0:=by
 have gen:∀m:List (Int×Int),(m.map (·.1)).Nodup->(x,k)∈m->((m.filter λy=>decide (y.1≠x)).map (·.2)).count j+(if k=j then 1 else 0)=(m.map (·.2)).count j:=λm=>by
  induction m with
  |nil=>intro _ hm;cases hm
  |cons y m ih=>
   intro ndm hm;rw[yA,OA] at ndm;by_cases c:y.1=x
   ·have hy:y=(x,k):=(vA.mp hm).elim (λz=>z.symm) λz=>absurd (by rw[c];exact bA.mpr ⟨_,z,rfl⟩) ndm.1;have hall:(m.filter λy=>decide (y.1≠x))=m:=List.filter_eq_self.mpr λu hu=>nA λz=>ndm.1 (by rw[c,<-z];exact bA.mpr ⟨u,hu,rfl⟩);rw[vB (by simpa using c),hall,yA,List.count_cons,hy];simp
   ·have hm':(x,k)∈m:=(vA.mp hm).elim (λz=>absurd (by rw[<-z]) c) id;have:=ih ndm.2 hm';rw[wB (by simpa using c),yA,yA,List.count_cons,List.count_cons];omega
 have z:=xQ (m:=(e.m.filter λy=>decide (y.1≠x))++[(x,made)]) (k:=j) nd un he;rw[gA,qB] at z;have z1:(([(x,made)]:List (Int×Int)).map (·.2)).count j=if made=j then 1 else 0:=by
  simp[List.count_singleton]
 have z2:=gen e.m nx hx;omega
def nD (k:Int) (S:List Sh):List Sh:=S.map λs=>if s.n=k then {s with h:=s.h+1} else s
theorem QO {S:List Sh} {k k1 h:Int} {u':Sh} (hu:u'∈nD k1 (oE k h S)):∃u∈S,u'.n=u.n/\u'.a=u.a/\u'.xs=u.xs/\u'.h=u.h+(if u.n=k1 then 1 else 0) - (if u.n=k then 1 else 0)/\(u.n=k->h≠1):=by
 obtain⟨v,hv,rfl⟩:=bA.mp hu;have key:∃u∈S,v.n=u.n/\v.a=u.a/\v.xs=u.xs/\v.h=u.h - (if u.n=k then 1 else 0)/\(u.n=k->h≠1):=by
  unfold oE at hv;by_cases c:h=1
  ·rw[iA c] at hv;obtain⟨hv,hk⟩:=AA.mp hv;have hk:=UA hk;exact⟨v,hv,rfl,rfl,rfl,by rw[fA hk];omega,λz=>absurd z hk⟩
  ·rw[fA c] at hv;obtain⟨w,hw,rfl⟩:=bA.mp hv;refine⟨w,hw,?_,?_,?_,?_,λο=>c⟩
   all_goals split<;>first|rfl|(show _=_ - _;omega)
 obtain⟨u,hu,e1,e2,e3,e4,e5⟩:=key;refine⟨u,hu,?_,?_,?_,?_,e5⟩
 ·split<;>exact e1
 ·split<;>exact e2
 ·split<;>exact e3
 ·rw[<-e1]
  split
  ·show v.h+1=_;rw[e4,e1];omega
  ·rw[e4,e1];omega
theorem mK {S:List Sh} {k k1 h:Int} {u:Sh} (hu:u∈S) (hk:u.n=k->h≠1):∃u'∈nD k1 (oE k h S),u'.n=u.n/\u'.xs=u.xs:=by
 have key:∃v∈oE k h S,v.n=u.n/\v.xs=u.xs:=by
  unfold oE;by_cases c:h=1
  ·rw[iA c];exact⟨u,AA.mpr ⟨hu,nA λz=>hk z c⟩,rfl,rfl⟩
  ·rw[fA c];refine⟨_,bA.mpr ⟨u,hu,rfl⟩,?_,?_⟩
   all_goals split<;>rfl
 obtain⟨v,hv,e1,e2⟩:=key;refine⟨_,bA.mpr ⟨v,hv,rfl⟩,?_,?_⟩
 ·split<;>exact e1
 ·split<;>exact e2
theorem PC.move {S:List Sh} {es:List Ho} {e:Ho} {x k1:Int} {s:Sh} (h:PC S es) (nd:(es.map Ho.d).Nodup) (un:∀e'∈es,e'.k=e.k->e'.n=e.n->e'=e) (he:e∈es) (nx:(e.m.map (·.1)).Nodup) (nn:(S.map Sh.n).Nodup) (hs:s∈S) (hx:(x,s.n)∈e.m) (ne:k1≠s.n) (h1:∃s1∈S,s1.n=k1):
  PC (nD k1 (oE s.n s.h S)) (WC e.k e.n ((e.m.filter λy=>decide (y.1≠x))++[(x,k1)]) es)/\∀e'∈WC e.k e.n ((e.m.filter λy=>decide (y.1≠x))++[(x,k1)]) es,∀y∈e'.m,∃u∈S,u.n=y.2/\(u.n=s.n->s.h≠1):=by
 have hc:=λj=>Yh (made:=k1) nd un he nx hx j;have alive:∀e'∈WC e.k e.n ((e.m.filter λy=>decide (y.1≠x))++[(x,k1)]) es,∀y∈e'.m,∃u∈S,u.n=y.2/\(u.n=s.n->s.h≠1):=λe' he' y hy=>by
  have h0:∃u∈S,u.n=y.2:=by
   rcases kU he' with ⟨u,hu,_,_,rfl⟩|⟨hu,_⟩
   ·rcases dA.mp hy with q|q
    ·exact h.liv e he y (AA.mp q).1
    ·rw[aA.mp q];exact h1
   ·exact h.liv e' hu y hy
  obtain⟨u,hu,e1⟩:=h0;refine⟨u,hu,e1,λz=>?_⟩;have hp:0 < (ED (WC e.k e.n ((e.m.filter λy=>decide (y.1≠x))++[(x,k1)]) es)).count s.n:=List.count_pos_iff.mpr (yQ.mpr ⟨e',he',y,hy,by rw[<-e1,z]⟩);have h2:=hc s.n;rw[iA rfl,fA ne] at h2;have h3:=h.cnt s hs;omega
 refine⟨⟨λe' he' y hy=>?_,λu' hu'=>?_,λu' hu'=>?_⟩,alive⟩
 ·obtain⟨u,hu,e1,hk⟩:=alive e' he' y hy;obtain⟨u',hu',e2,_⟩:=mK (k1:=k1) hu hk;exact⟨u',hu',e2.trans e1⟩
 ·obtain⟨u,hu,e1,_,_,e4,_⟩:=QO hu';have h2:=hc u.n;have h3:=h.cnt u hu;rw[e4,e1];by_cases c1:u.n=k1<;>by_cases c:u.n=s.n
  ·exact absurd (c1.symm.trans c) ne
  ·rw[iA c1,fA c];rw[fA (λz=>c z.symm),iA c1.symm] at h2;omega
  ·rw[fA c1,iA c];rw[iA c.symm,fA (λz=>c1 z.symm)] at h2;omega
  ·rw[fA c1,fA c];rw[fA (λz=>c z.symm),fA (λz=>c1 z.symm)] at h2;omega
 ·obtain⟨u,hu,e1,_,_,e4,e5⟩:=QO hu';have h3:=h.pos u hu;rw[e4];by_cases c:u.n=s.n
  ·obtain rfl:=cE nn hu hs c;have:=e5 rfl;rw[iA rfl]
   split<;>omega
  ·rw[fA c]
   split<;>omega
structure Fo (g:Int) (S0:List Sh) (es0:List Ho) (S:List Sh) (es:List Ho) (kv:List (List Key×V)) (dn:List (Int×Int)):Prop where
 pc:PC S es
 sb:∀s∈S,∃s0∈S0,s0.n=s.n/\s0.a=s.a
 sl:S.length<=S0.length
 ho:es.map (λe=>(e.k,e.n,e.d))=es0.map λe=>(e.k,e.n,e.d)
 pg:∀e∈es,∃e0∈es0,e0.k=e.k/\e0.n=e.n/\e.m.length<=e0.m.length/\∀y,BC g S e y=BC g S0 e0 y/\(mC e y=none↔mC e0 y=none)/\((e.k=true\/(e.n,y)∉dn)->mC e y=mC e0 y)
 ol:∀e∈es,e.k=false->∀y k,mC e y=some k->∃e0∈es0,e0.k=false/\∃y0,mC e0 y0=some k
 kn:∀q v,gC kv q=some v->∃e∈es,e.k=false/\∃y k,(e.n,y)∈dn/\mC e y=some k/\v=V.int k/\q=(BC g S e y).map Sum.inl
 kd:∀e∈es,e.k=false->∀y k,(e.n,y)∈dn->mC e y=some k->gC kv ((BC g S e y).map Sum.inl)=some (.int k)
theorem Fo.own {g:Int} {S0:List Sh} {es0:List Ho} {S:List Sh} {es:List Ho} {kv:List (List Key×V)} {dn:List (Int×Int)} {r:Ro} {z:Hz} {c:Addr} (h:Fo g S0 es0 S es kv dn) (o:AE r z S es c):AE r z S0 es0 c:=by
 rcases o with o|o|⟨s,hs,rfl⟩
 ·exact .inl o
 ·have e:=congrArg (List.map λx:Bool×Int×Addr=>x.2.2) h.ho;rw[lA,lA] at e;have e:es.map Ho.d=es0.map Ho.d:=e;unfold OE at o;rw[e] at o;exact .inr (.inl o)
 ·obtain⟨s0,h0,_,a⟩:=h.sb s hs;exact .inr (.inr ⟨s0,h0,a.symm⟩)
theorem BQ {xs ys:List Int} (h:(xs.map Sum.inl:List Key)=ys.map Sum.inl):xs=ys:=by
 have:=congrArg (List.map λk:Key=>match k with|.inl i=>i|.inr _=>0) h;rw[lA,lA] at this;exact (List.map_id xs).symm.trans (this.trans (List.map_id ys))
theorem XI {g:Int} {S:List Sh} {e:Ho} {y:Int} {s:Sh} (nn:(S.map Sh.n).Nodup) (hs:s∈S) (h:mC e y=some s.n):BC g S e y=s.xs:=by
 unfold BC;rw[h];show (AD S s.n).getD _=_;rw[kH nn hs];rfl
theorem Fo.stay {g:Int} {S0:List Sh} {es0:List Ho} {S:List Sh} {es:List Ho} {kv:List (List Key×V)} {dn:List (Int×Int)} {e:Ho} {x k:Int} (h:Fo g S0 es0 S es kv dn) (he:e∈es) (hk:e.k=false) (un:∀e'∈es,e'.k=false->e'.n=e.n->e'=e) (hx:mC e x=some k) (hv:gC kv ((BC g S e x).map Sum.inl)=none\/gC kv ((BC g S e x).map Sum.inl)=some (.int k)):
  Fo g S0 es0 S es (if gC kv ((BC g S e x).map Sum.inl)=none then JC kv ((BC g S e x).map Sum.inl) (.int k) else kv) (dn++[(e.n,x)]):=by
 have vv:∀q,gC (if gC kv ((BC g S e x).map Sum.inl)=none then JC kv ((BC g S e x).map Sum.inl) (.int k) else kv) q=if q=(BC g S e x).map Sum.inl then some (V.int k) else gC kv q:=λq=>by
  rcases hv with hv|hv
  ·rw[iA hv,PK]
  ·rw[hv,fA (λz=>nomatch z)];by_cases c:q=(BC g S e x).map Sum.inl
   ·rw[iA c,c,hv]
   ·rw[fA c]
 refine⟨h.pc,h.sb,h.sl,h.ho,λe' he'=>?_,h.ol,λq v hq=>?_,λe' he' hk' y k' hd hy=>?_⟩
 ·obtain⟨e0,h0,a1,a2,a3,a4⟩:=h.pg e' he';exact⟨e0,h0,a1,a2,a3,λy=>⟨(a4 y).1,(a4 y).2.1,λz=>(a4 y).2.2 (z.imp id λz w=>z (pA _ w))⟩⟩
 ·rw[vv] at hq;by_cases c:q=(BC g S e x).map Sum.inl
  ·rw[iA c] at hq;exact⟨e,he,hk,x,k,eA _ (aA.mpr rfl),hx,(rA hq).symm,c⟩
  ·rw[fA c] at hq;obtain⟨e',he',k',y,j,b1,b2⟩:=h.kn q v hq;exact⟨e',he',k',y,j,pA _ b1,b2⟩
 ·rw[vv];rcases dA.mp hd with q|q
  ·have z:=h.kd e' he' hk' y k' q hy;by_cases c:(BC g S e' y).map Sum.inl=((BC g S e x).map Sum.inl:List Key)
   ·rw[iA c];rw[c] at z;rcases hv with hv|hv
    ·rw[hv] at z;cases z
    ·rw[<-z,hv]
   ·rw[fA c];exact z
  ·have q:=aA.mp q;obtain rfl:=un e' he' hk' (congrArg Prod.fst q);obtain rfl:y=x:=congrArg Prod.snd q;rw[iA rfl,rA (hx.symm.trans hy)]
theorem Fo.moved {g:Int} {S0:List Sh} {es0:List Ho} {S:List Sh} {es:List Ho} {kv:List (List Key×V)} {dn:List (Int×Int)} {e:Ho} {x k1:Int} {s:Sh} (h:Fo g S0 es0 S es kv dn) (he:e∈es) (hk:e.k=false) (nd:(es.map Ho.d).Nodup) (un:∀a∈es,∀b∈es,a.k=b.k->a.n=b.n->a=b) (ux:∀e∈es,(e.m.map (·.1)).Nodup) (nn:(S.map Sh.n).Nodup) (hs:s∈S) (hx:mC e x=some s.n) (hd:(e.n,x)∉dn) (hv:gC kv ((BC g S e x).map Sum.inl)=some (.int k1)) (ne:k1≠s.n) (nn':((nD k1 (oE s.n s.h S)).map Sh.n).Nodup) (um:(((e.m.filter λy=>decide (y.1≠x))++[(x,k1)]).map (·.1)).Nodup):
  Fo g S0 es0 (nD k1 (oE s.n s.h S)) (WC e.k e.n ((e.m.filter λy=>decide (y.1≠x))++[(x,k1)]) es) kv (dn++[(e.n,x)]):=by
 obtain⟨e2,he2,hk2,y2,j,d2,n2,v2,r2⟩:=h.kn _ _ hv;obtain rfl:k1=j:=V.int.inj v2;have r2:BC g S e x=BC g S e2 y2:=BQ r2;obtain⟨s1,hs1,hn1⟩:=h.pc.liv e2 he2 _ ((OD (ux e2 he2)).mp n2);have hn1:s1.n=k1:=hn1;subst hn1;obtain⟨hP,alive⟩:=h.pc.move nd (λa ha=>un a ha e he) he (ux e he) nn hs ((OD (ux e he)).mp hx) ne ⟨s1,hs1,rfl⟩;have vS:∀u∈S,(u.n=s.n->s.h≠1)->AD (nD s1.n (oE s.n s.h S)) u.n=some u.xs:=λu hu c=>by
  obtain⟨u',hu',q1,q2⟩:=mK (k1:=s1.n) hu c;rw[<-q1,kH nn' hu',q2]
 have hxm:=(OD (ux e he)).mp hx;generalize hm9:(e.m.filter λy=>decide (y.1≠x))++[(x,s1.n)]=m9 at *;have hm:∀w:Int×Int,w∈m9↔w=(x,s1.n)\/(w∈e.m/\w.1≠x):=λw=>by
  rw[<-hm9,dA,aA,AA,SA];exact Or.comm
 have hl9:m9.length<=e.m.length:=by
  rw[<-hm9,oA];exact LB.mpr ⟨_,hxm,by simp⟩
 have rel:∀u∈es,∃e'∈WC e.k e.n m9 es,(if u.k=e.k/\u.n=e.n then {u with m:=m9} else u)=e'/\u.k=e'.k/\u.n=e'.n/\e'.m.length<=u.m.length/\∀y,BC g (nD s1.n (oE s.n s.h S)) e' y=BC g S u y/\(u=e/\y=x->mC e' y=some s1.n)/\(¬(u=e/\y=x)->mC e' y=mC u y):=λu hu=>by
  have hin:(if u.k=e.k/\u.n=e.n then {u with m:=m9} else u)∈WC e.k e.n m9 es:=bA.mpr ⟨u,hu,rfl⟩;have hnum:∀y,(u=e/\y=x->mC (if u.k=e.k/\u.n=e.n then {u with m:=m9} else u) y=some s1.n)/\(¬(u=e/\y=x)->mC (if u.k=e.k/\u.n=e.n then {u with m:=m9} else u) y=mC u y):=λy=>by
   by_cases c:u.k=e.k/\u.n=e.n
   ·obtain rfl:=un u hu e he c.1 c.2;rw[iA c];have ns:∀{j},mC ({u with m:=m9}:Ho) y=some j↔(y,j)∈m9:=OD (e:={u with m:=m9}) um;refine⟨?_,λd=>?_⟩
    ·rintro⟨_,rfl⟩;exact ns.mpr ((hm _).mpr (.inl rfl))
    ·have d:y≠x:=λz=>d ⟨rfl,z⟩;cases e3:mC u y with
     |some j=>exact ns.mpr ((hm _).mpr (.inr ⟨(OD (ux u hu)).mp e3,d⟩))
     |none=>
      cases e4:mC ({u with m:=m9}:Ho) y with
      |none=>rfl
      |some j=>
       exfalso;rcases (hm _).mp (ns.mp e4) with q|⟨q,_⟩
       ·exact d (congrArg Prod.fst q)
       ·rw[(OD (ux u hu)).mpr q] at e3;cases e3
   ·rw[fA c];refine⟨?_,λο=>rfl⟩;rintro⟨rfl,_⟩;exact absurd ⟨rfl,rfl⟩ c
  have hux:((if u.k=e.k/\u.n=e.n then {u with m:=m9} else u:Ho).m.map (·.1)).Nodup:=by
   split
   ·exact um
   ·exact ux u hu
  have hal:=alive _ hin;refine⟨_,hin,rfl,by split<;>rfl,by split<;>rfl,?_,λy=>⟨?_,hnum y⟩⟩
  ·by_cases c:u.k=e.k/\u.n=e.n
   ·obtain rfl:=un u hu e he c.1 c.2;rw[iA c];exact hl9
   ·rw[fA c];exact kA _
  ·generalize (if u.k=e.k/\u.n=e.n then {u with m:=m9} else u:Ho)=e' at *;by_cases c:u=e/\y=x
   ·have e4:=(hnum y).1 c;obtain⟨rfl,rfl⟩:=c;rw[r2,XI nn hs1 n2];unfold BC;rw[e4];show (AD _ s1.n).getD _=_;rw[vS s1 hs1 (λz=>absurd z ne)];rfl
   ·have e4:=(hnum y).2 c;cases e3:mC u y with
    |none=>unfold BC;rw[e4,e3];rfl
    |some j=>
     rw[e3] at e4;obtain⟨u0,hu0,q1,q2⟩:=hal _ ((OD hux).mp e4);have q1:u0.n=j:=q1;subst q1;rw[XI nn hu0 e3];unfold BC;rw[e4];show (AD _ u0.n).getD _=_;rw[vS u0 hu0 q2];rfl
 have bwd:∀e'∈WC e.k e.n m9 es,∃u∈es,u.k=e'.k/\u.n=e'.n/\e'.m.length<=u.m.length/\∀y,BC g (nD s1.n (oE s.n s.h S)) e' y=BC g S u y/\(u=e/\y=x->mC e' y=some s1.n)/\(¬(u=e/\y=x)->mC e' y=mC u y):=λe' he'=>by
  obtain⟨u,hu,rfl⟩:=bA.mp he';obtain⟨_,_,rfl,q⟩:=rel u hu;exact⟨u,hu,q⟩
 refine⟨hP,λu' hu'=>?_,?_,?_,λe' he'=>?_,λe' he' hk' y k hy=>?_,λq v hq=>?_,λe' he' hk' y k hd' hy=>?_⟩
 ·obtain⟨u,hu,a1,a2,_⟩:=QO hu';obtain⟨s0,h0,b1,b2⟩:=h.sb u hu;exact⟨s0,h0,b1.trans a1.symm,b2.trans a2.symm⟩
 ·refine dB ?_ h.sl;unfold nD oE;rw[cA]
  split
  ·exact bB _ _
  ·exact Nat.le_of_eq (cA ..)
 ·rw[<-h.ho];unfold WC;rw[lA];refine DA λu ο=>?_;show ((if u.k=e.k/\u.n=e.n then {u with m:=m9} else u:Ho).k,(if u.k=e.k/\u.n=e.n then {u with m:=m9} else u:Ho).n,(if u.k=e.k/\u.n=e.n then {u with m:=m9} else u:Ho).d)=_
  split<;>rfl
 ·obtain⟨u,hu,a1,a2,a3,a4⟩:=bwd e' he';obtain⟨e0,h0,b1,b2,b3,b4⟩:=h.pg u hu;refine⟨e0,h0,b1.trans a1,b2.trans a2,dB a3 b3,λy=>⟨(a4 y).1.trans (b4 y).1,?_,λz=>?_⟩⟩
  ·rw[<-(b4 y).2.1];by_cases c:u=e/\y=x
   ·rw[(a4 y).2.1 c,c.1,c.2,hx];exact⟨(λz=>nomatch z),(λz=>nomatch z)⟩
   ·rw[(a4 y).2.2 c]
  ·by_cases c:u=e/\y=x
   ·exfalso;rcases z with z|z
    ·rw[<-a1,c.1,hk] at z;cases z
    ·exact z (eA _ (by rw[<-a2,c.1,c.2];exact aA.mpr rfl))
   ·rw[(a4 y).2.2 c];exact (b4 y).2.2 (z.imp (λz=>a1.trans z) λz w=>z (pA _ (by rw[<-a2];exact w)))
 ·obtain⟨u,hu,a1,a2,a3,a4⟩:=bwd e' he';by_cases c:u=e/\y=x
  ·rw[(a4 y).2.1 c] at hy;cases hy;exact h.ol e2 he2 hk2 y2 _ n2
  ·rw[(a4 y).2.2 c] at hy;exact h.ol u hu (a1.trans hk') y k hy
 ·obtain⟨e3,he3,hk3,y3,j3,b1,b2,b3,b4⟩:=h.kn q v hq;obtain⟨e',he',_,a1,a2,a3,a4⟩:=rel e3 he3;have c:¬(e3=e/\y3=x):=λc=>hd (by rw[<-c.1,<-c.2];exact b1);exact⟨e',he',a1.symm.trans hk3,y3,j3,pA _ (by rw[<-a2];exact b1),by rw[(a4 y3).2.2 c];exact b2,b3,by rw[(a4 y3).1];exact b4⟩
 ·obtain⟨u,hu,a1,a2,a3,a4⟩:=bwd e' he';rw[(a4 y).1];by_cases c:u=e/\y=x
  ·rw[(a4 y).2.1 c] at hy;cases hy;rw[c.1,c.2];exact hv
  ·rw[(a4 y).2.2 c] at hy;refine h.kd u hu (a1.trans hk') y k ?_ hy;rcases dA.mp hd' with q|q
   ·rw[a2];exact q
   ·have q:=aA.mp q;exact absurd ⟨un u hu e he (by rw[a1,hk',hk]) (by rw[a2];exact congrArg Prod.fst q),congrArg Prod.snd q⟩ c
theorem CQ {kvs:List (List Key×V)} {k:List Key} {v:V}:(JC kvs k v).length<=kvs.length+1:=by
 unfold JC
 split
 ·rw[cA];omega
 ·rw[oA];exact kA _
theorem YI {m:List (Int×Int)} {es:List Ho} {e:Ho} (h:e∈es):({e with m:=m}:Ho)∈WC e.k e.n m es:=bA.mpr ⟨e,h,iA ⟨rfl,rfl⟩⟩
inductive c9 (A:RC) (vs:List V) (H:Hp) (Q:VK) (E:XK):Prop where
 |mk (B:Hp) (r:Ro) (z:Hz) (l f g:Int) (tks:List Tk) (bk:Kvs) (made:Int) (S0:List Sh) (es0:List Ho) (S:List Sh) (es:List Ho) (e:Ho) (fb:Addr) (kv:List (List Key×V)) (dn:List (Int×Int)) (_:vs=[.ref r.p,.ref e.d,.ref fb]) (_:RH A B H r z l f g tks bk made S es) (_:e∈es) (_:e.k=false) (_:H fb=some (.dT kv)) (_:¬AE r z S es fb) (_:Fo g S0 es0 S es kv dn) (_:(∀x,(e.n,x)∉dn)) (_:S.length<=9000) (_:e.m.length < 64) (_:kv.length+e.m.length<=9000) (_:∀S' es' kv' dn' H',RH A B H' r z l f g tks bk made S' es'->H' fb=some (.dT kv')->¬AE r z S' es' fb->Fo g S0 es0 S' es' kv' dn'->(∀n x,(n,x)∈dn'↔(n,x)∈dn\/(n=e.n/\mC e x≠none))->kv'.length<=kv.length+e.m.length->(∀c o,H c=some o->¬AE r z S es c->c≠fb->H' c=some o)->Q .non H'):c9 A vs H Q E
def eM (A:RC):Sp:=c9 A
theorem RO (T:fD K mg A):AC P w K mg base A.Ab "fold_pages" 2 ["self","pages","first_by_boxes"] [] (eM A):=by
 have A6:=@fK P w K mg base A T;refine T.Dg.have iT (λvs H Q E z=>?_) ?_
 ·obtain⟨B,r,z,l,f,g,tks,bk,made,S0,es0,S,es,e,fb,kv,dn,rfl,_⟩:=z;rfl
 ·intro f cdv A' outer s H vs Q E hr z;obtain⟨B,r,z,l,f',g,tks,bk,made,S0,es0,S,es,e,fb,kv,dn,rfl,hR,he,hek,hfb,nfb,hF,hdn,hSl,hml,hkl,q⟩:=z;refine⟨_,(FC (GH aB rfl (BI (rF (Q5 rfl) rfl T.Gz PyProof.Rows.boot_sorted (iC (eC 1) rC))) (wF (i:=3) iT.nd rfl (Or.inl rfl)) (LI (iD (i:=4) iT.nd rfl (Or.inl rfl) (KR (dD hr) (eC 2) (iI Y3 rfl T.Je PyProof.Rows.boot_tuple (iC (VD (dD hr) (cD (eC 0) rfl) (VD (dD hr) (eC 1) (eC 3) (λο ο=>rfl)) (λο ο=>rfl)) rC)) (VD (dD hr) (eC 1) (eC 3) (λο ο=>rfl)) ⟨rfl,rfl,rfl,rfl⟩))
   (FC (hE (pE SQ (eC 4) (VD (dD hr) (eC 1) (eC 3) (λο ο=>rfl)) (wC _)) (CC (GE (HD (eC 0) T.Ac A6 (hr.mono (by decide)) GC (iC (eC 1) (iC (eC 3) rC))))
   (CC (QF (dD hr) (eC 1) (eC 3) (eC 4) rfl)
   (FC (QF (dD hr) (cD (eC 0) rfl) (eC 4) (BD aG (VD (dD hr) (cD (eC 0) rfl) (eC 4) (λο ο=>rfl)) yC) rfl)))) kE))))),?_⟩
  unfold pD ND UF;rfl';refine⟨mD e.m,.inl (hR.pe e he),e.m.map (·.1),by unfold mD;rw[lA,lA];rfl,by rw[cA];exact hml,λl0 ms hl0 hpm ο=>?_⟩;obtain⟨s1,g1⟩:=ZE (o:=.lst (ms.map V.int)) hl0;have hR1:=hR.same s1;have nl0:=hR.ex hl0;have hfb1:=s1 _ _ hfb;have nlf:l0≠fb:=λz=>by rw[z,hfb] at hl0;cases hl0
  generalize jC H l0 (.lst (ms.map V.int))=H1 at *;have hmsl:ms.length=e.m.length:=by rw[hpm.length_eq,cA]
  have ndm:ms.Nodup:=hpm.nodup_iff.mpr (hR.ux e he);have hmem:∀y,y∈ms↔mC e y≠none:=λy=>by
   rw[hpm.mem_iff,bA];constructor
   ·rintro⟨w,hw,rfl⟩;rw[(OD (hR.ux e he)).mpr hw];exact λz=>nomatch z
   ·intro hn;obtain⟨k,hk⟩:=Option.ne_none_iff_exists'.mp hn;exact⟨_,(OD (hR.ux e he)).mp hk,rfl⟩
  refine⟨⟨_,QC.of g1⟩,SN (K:=K) (xs:=ms.map V.int) (λi σ G=>∃v3 v4 S' es' e' kv' dn',σ=[some (.ref r.p),some (.ref e.d),some (.ref fb),v3,v4]/\RH A B G r z l f' g tks bk made S' es'/\e'∈es'/\e'.k=false/\e'.n=e.n/\e'.d=e.d/\(∀y,mC e' y=none↔mC e y=none)/\e'.m.length<=e.m.length/\G fb=some (.dT kv')/\kv'.length<=kv.length+i/\(∀c,AE r z S' es' c->AE r z S es c)/\S'.length<=S.length/\Fo g S0 es0 S' es' kv' dn'/\(∀n x,(n,x)∈dn'↔(n,x)∈dn\/(n=e.n/\x∈ms.take i))/\∀c o,H1 c=some o->¬AE r z S es c->c≠fb->G c=some o) ⟨_,_,S,es,e,kv,dn,rfl,hR1,he,hek,rfl,rfl,λο=>Iff.rfl,kA _,hfb1,kA _,λο h=>h,kA _,hF,λn x=>⟨.inl,λz=>z.elim id λz=>by simp at z⟩,λc o h ο ο=>h⟩ (λi σ G _ zz=>by obtain⟨_,_,_,_,_,_,_,zz⟩:=zz;exact QC.of (zz.2.2.2.2.2.2.2.2.2.2.2.2.2.2 _ _ g1 nl0 nlf)) (λi v σ G hi=>?_) (λσ G=>?_)⟩
  ·rintro⟨v3,v4,S',es',e',kv',dn',rfl,hR',he',hek',hen',hed',hnn',hml',hfb',hkl',hown,hSl',hF',hdn',hfr⟩;rw[QA] at hi;obtain⟨x,hx,rfl⟩:=XA.mp hi;have hil:=(IA.mp hx).1;have htk:ms.take (i+1)=ms.take i++[x]:=by rw[NA,hx];rfl
   obtain⟨k,hk⟩:=Option.ne_none_iff_exists'.mp (λz=>(hmem x).mp (JA hx) ((hnn' x).mp z));obtain⟨s,hs,e1⟩:=hF'.pc.liv e' he' _ ((OD (hR'.ux e' he')).mp hk);have e1:s.n=k:=e1;subst e1;have D:=UL hR'.nd;have De:=D.e e' he';have hpe:=hR'.pe e' he';obtain⟨dx,h1⟩:=hR'.s.me;have hval:gC (mD e'.m) (Sum.inl x)=some (.int s.n):=by rw[OM (hR'.ux e' he'),hk];rfl
   have hrow:BC g S' e' x=s.xs:=XI hR'.s.nn hs hk;have hz:=PySem.sizeLine_eq;rw[<-hed'];refine⟨λσ G2=>∃(k1:Int) (kv2:List (List Key×V)),σ=[some (.ref r.p),some (.ref e'.d),some (.ref fb),some (.int x),some (.int k1)]/\Kd fb G G2/\G2 fb=some (.dT kv2)/\((gC kv' (s.xs.map Sum.inl)=some (.int k1)/\kv2=kv')\/(gC kv' (s.xs.map Sum.inl)=none/\k1=s.n/\kv2=JC kv' (s.xs.map Sum.inl) (.int s.n))),?_,λσ2 G2=>?_⟩
   ·rfl';refine⟨.inr ⟨_,.inl hfb'⟩,_,dx,_,h1,T.Ac,T.Ai,_,WH,_,.inl ⟨mD e'.m,Sum.inl x,.inl hpe,rfl,hval.symm⟩,r.sd,rfl,_,.inl ⟨_,Sum.inl s.n,.inl hR'.s.s,rfl,(MM hR'.s.nn hs).symm⟩,s.a,rfl,_,.inl ⟨QC.of (hR'.s.x s hs),λl1 hl1=>?_⟩⟩;obtain⟨s3,g3⟩:=ZE (o:=.tup (s.xs.map V.int)) hl1;refine⟨_,.inl ⟨mD e'.m,Sum.inl x,.inl (s3 _ _ hpe),rfl,hval.symm⟩,kv',s3 _ _ hfb',s.xs.map Sum.inl,by rw[lA];rfl,⋯,λv hv=>?_,λhv=>?_⟩
    ·obtain⟨_,_,_,_,k1,_,_,rfl,_⟩:=hF'.kn _ _ hv;exact⟨k1,rfl,Kd.of s3,_,s3 _ _ hfb',.inl ⟨hv,rfl⟩⟩
    ·exact⟨_,rfl,(Kd.of s3).trans sE,_,rfl,.inr ⟨hv,rfl,rfl⟩⟩
   rintro⟨k1,kv2,rfl,k2,hfb2,hkv⟩;have nfb':¬AE r z S' es' fb:=λo=>nfb (hown _ o);have hR2:=hR'.kd hfb' nfb' (.inr (.inl ⟨_,rfl⟩)) k2 hfb2;have hpe2:=hR2.pe e' he';have un:=λa ha b hb=>hR2.one (e:=a) (e':=b) ha hb;have hdx:(e'.n,x)∉dn':=λz=>by
    rcases (hdn' _ _).mp z with z|⟨_,z⟩
    ·rw[hen'] at z;exact hdn x z
    ·have h3:(ms.take (i+1)).Nodup:=ndm.sublist (jB _ _);rw[htk,zA] at h3;exact h3.2.2 _ z _ (aA.mpr rfl) rfl
   have hdn2:∀n y,(n,y)∈dn'++[(e'.n,x)]↔(n,y)∈dn\/(n=e.n/\y∈ms.take (i+1)):=λn y=>by
    rw[dA,aA,hdn',htk,dA,aA,Prod.mk.injEq,hen',and_or_left,or_assoc]
   have hfr2:∀c o,H1 c=some o->¬AE r z S es c->c≠fb->G2 c=some o:=λc o h n1 n2=>k2 _ _ (hfr c o h n1 n2) n2;have hkl2:kv2.length<=kv.length+(i+1):=by
    rcases hkv with ⟨_,rfl⟩|⟨_,_,rfl⟩
    ·omega
    ·have:=CQ (kvs:=kv') (k:=s.xs.map Sum.inl) (v:=V.int s.n);omega
   rfl';refine⟨_,.inl ⟨mD e'.m,Sum.inl x,.inl hpe2,rfl,hval.symm⟩,rfl,?_⟩;by_cases c:k1=s.n
   ·rw[c,nA rfl];have hst:=hF'.stay he' hek' (λa ha h1 h2=>un a ha e' he' (h1.trans hek'.symm) h2) hk (by
     rw[hrow];rcases hkv with ⟨h,_⟩|⟨h,_⟩
     ·rw[<-c];exact .inr h
     ·exact .inl h)
    have e9:(if gC kv' ((BC g S' e' x).map Sum.inl)=none then JC kv' ((BC g S' e' x).map Sum.inl) (.int s.n) else kv')=kv2:=by
     rw[hrow];rcases hkv with ⟨h,h'⟩|⟨h,_,h'⟩
     ·rw[h,fA (λz=>nomatch z),h']
     ·rw[iA h,h']
    rw[e9] at hst;exact wD ⟨S',es',hR2,e',he',hek',hen',rfl,hnn',hml',kv2,hfb2,hkl2,hown,hSl',_,hst,hdn2,hfr2⟩
   ·rw[HA (λz=>c (V.int.inj z))];obtain⟨hv,rfl⟩:gC kv' (s.xs.map Sum.inl)=some (.int k1)/\kv2=kv':=hkv.elim id λh=>absurd h.2.1 c;obtain⟨e2,he2,hk2,y2,j2,d2,n2,v2,r2⟩:=hF'.kn _ _ hv;obtain rfl:k1=j2:=V.int.inj v2;obtain⟨s1,hs1,hn1⟩:=hF'.pc.liv e2 he2 _ ((OD (hR'.ux e2 he2)).mp n2);have hn1:s1.n=k1:=hn1;subst hn1;obtain⟨dx2,h12⟩:=hR2.s.me;refine xD ⟨dx2,_,h12,QE ∅,r,made,S',e'.d,mD e'.m,x,rfl,hR2.s,hpe2,De.1,De.2.1,⋯,.inr ⟨s,hs,hval,λH3 hS3 hd3 hk3=>?_⟩⟩;rw[t8] at hd3;obtain⟨dx3,h13⟩:=hS3.me;have hin:s1∈oE s.n s.h S':=by
     unfold oE
     split
     ·exact AA.mpr ⟨hs1,nA c⟩
     ·exact bA.mpr ⟨s1,hs1,fA c⟩
    have npd:e'.d≠r.p:=LC hpe2 h12 (λz=>nomatch z);have fl:(e'.m.filter λy=>decide (y.1≠x)).length<=e'.m.length:=bB _ _;have gl:(oE s.n s.h S').length<=S'.length:=by
     unfold oE
     split
     ·exact bB _ _
     ·exact Nat.le_of_eq (cA ..)
    refine⟨_,.inl ⟨mD (e'.m.filter λy=>decide (y.1≠x)),Sum.inl x,hd3,rfl,by unfold mD;rw[cA];omega,rfl⟩,_,dx3,_,by rw[vC npd.symm];exact h13,T.Ac,T.Aj,_,XH,r.hd,rfl,_,.inl ⟨_,Sum.inl s1.n,.inl (by rw[vC De.2.1.symm];exact hS3.h),rfl,(eK hS3.nn hin).symm⟩,_,rfl,_,dx3,_,by rw[vC npd.symm];exact h13,T.Ac,T.Aj,_,XH,r.hd,rfl,_,.inl ⟨_,Sum.inl s1.n,by rw[vC De.2.1.symm];exact hS3.h,rfl,by unfold MD;rw[cA];omega,rfl⟩,?_⟩;have hvm:JC (MD (oE s.n s.h S')) (Sum.inl s1.n) (.int (s1.h+1))=MD (nD s1.n (oE s.n s.h S')):=R8 hS3.nn hin;rw[hvm,sJ _ u8,show mD (e'.m.filter λy=>decide (y.1≠x))++[((Sum.inl x:Key),V.int s1.n)]=mD ((e'.m.filter λy=>decide (y.1≠x))++[(x,s1.n)]) by unfold mD;rw[gA];rfl];have k4:∀c o,H3 c=some o->c≠e'.d->c≠r.hd->jC (jC H3 e'.d (.dK (mD ((e'.m.filter λy=>decide (y.1≠x))++[(x,s1.n)])))) r.hd (.dK (MD (nD s1.n (oE s.n s.h S')))) c=some o:=λc o h n1 n2=>by rw[vC n2,vC n1];exact h
    have g4:jC (jC H3 e'.d (.dK (mD ((e'.m.filter λy=>decide (y.1≠x))++[(x,s1.n)])))) r.hd (.dK (MD (nD s1.n (oE s.n s.h S')))) e'.d=some (.dK (mD ((e'.m.filter λy=>decide (y.1≠x))++[(x,s1.n)]))):=by rw[vC De.2.1,IC]
    have g5:jC (jC H3 e'.d (.dK (mD ((e'.m.filter λy=>decide (y.1≠x))++[(x,s1.n)])))) r.hd (.dK (MD (nD s1.n (oE s.n s.h S')))) r.hd=some (.dK (MD (nD s1.n (oE s.n s.h S')))):=IC;show ∃S' es',_;generalize jC (jC H3 e'.d (.dK (mD ((e'.m.filter λy=>decide (y.1≠x))++[(x,s1.n)])))) r.hd (.dK (MD (nD s1.n (oE s.n s.h S'))))=H5 at *;have nf:x∉(e'.m.filter λy=>decide (y.1≠x)).map (·.1):=λz=>by
     obtain⟨u,hu,rfl⟩:=bA.mp z;exact absurd rfl (UA (AA.mp hu).2)
    have um:(((e'.m.filter λy=>decide (y.1≠x))++[(x,s1.n)]).map (·.1)).Nodup:=by
     rw[gA];exact zA.mpr ⟨(List.filter_sublist.map _).nodup (hR2.ux e' he'),by simp,λa ha b hb z=>nf (by rw[z,aA.mp hb] at ha;exact ha)⟩
    have mn:∀{α:Type} (f:Sh->α),(∀u h,f {u with h:=h}=f u)->(nD s1.n (oE s.n s.h S')).map f=(oE s.n s.h S').map f:=λf hf=>by
     unfold nD;rw[lA];refine DA λu ο=>?_;show f (if u.n=s1.n then _ else u)=f u
     split
     ·exact hf u _
     ·rfl
    have hS5:ID A H5 r made (nD s1.n (oE s.n s.h S')):=by
     refine⟨⟨dx3,k4 _ _ h13 npd.symm (LC h13 hS3.h (λz=>nomatch z))⟩,?_,g5,λu hu=>?_,by rw[mn Sh.a λο ο=>rfl];exact hS3.nd,by rw[mn Sh.n λο ο=>rfl];exact hS3.nn,λu hu=>?_,hS3.ne⟩
     ·rw[show tE (nD s1.n (oE s.n s.h S'))=tE (oE s.n s.h S') from mn (λs=>((Sum.inl s.n:Key),V.ref s.a)) λο ο=>rfl];exact k4 _ _ hS3.s De.1.symm hS3.ne
     ·obtain⟨v,hv',rfl⟩:=bA.mp hu;have hx3:=hS3.x v hv';have:=k4 _ _ hx3 (LC hx3 hd3 (λz=>nomatch z)) (LC hx3 hS3.h (λz=>nomatch z))
      split<;>exact this
     ·obtain⟨v,hv',rfl⟩:=bA.mp hu;have:=hS3.b v hv'
      split<;>exact this
    obtain⟨hR5,_⟩:=hR2.put he' hS5 (λu hu=>by
     obtain⟨v,hv',_,a2,a3,_⟩:=QO hu;rw[a2,a3];exact⟨hR2.sb v hv',hR2.sz v hv'⟩) g4 um (λc o h n1 n2 n3 n4 ο=>k4 _ _ (hk3 _ _ h n1 n3 n4) n1 n4)
    have hF5:=hF'.moved he' hek' D.nd un hR2.ux hR2.s.nn hs hk hdx (by rw[hrow];exact hv) c hS5.nn um;have own5:∀c,AE r z (nD s1.n (oE s.n s.h S')) (WC e'.k e'.n ((e'.m.filter λy=>decide (y.1≠x))++[(x,s1.n)]) es') c->AE r z S' es' c:=λc hc=>by
     rcases hc with hc|hc|⟨u,hu,rfl⟩
     ·exact .inl hc
     ·unfold OE at hc;rw[jU] at hc;exact .inr (.inl hc)
     ·obtain⟨v,hv',_,a2,_⟩:=QO hu;exact .inr (.inr ⟨v,hv',a2⟩)
    have keep:∀c o,G2 c=some o->¬AE r z S' es' c->H5 c=some o:=λc o h no=>by
     obtain⟨_,⟨m1,m2,_⟩,m7,_⟩:=hR2.no no;have m8:c≠e'.d:=λq=>m7 (by rw[q];exact bA.mpr ⟨e',he',rfl⟩);exact k4 _ _ (hk3 _ _ h m8 m1 m2) m8 m2
    have hm9:(nD s1.n (oE s.n s.h S')).length<=S'.length:=by unfold nD;rw[cA];exact gl
    refine⟨_,_,hR5,_,YI he',hek',hen',rfl,λy=>?_,?_,kv2,keep _ _ hfb2 nfb',hkl2,λc hc=>hown c (own5 c hc),⋯,_,hF5,hdn2,λc o h n1 n2=>keep c o (hfr2 c o h n1 n2) (λo=>n1 (hown c o))⟩
    ·rw[<-hnn' y];have ns:∀{j},mC ({e' with m:=(e'.m.filter λy=>decide (y.1≠x))++[(x,s1.n)]}:Ho) y=some j↔(y,j)∈(e'.m.filter λy=>decide (y.1≠x))++[(x,s1.n)]:=OD (e:={e' with m:=_}) um;have ns':∀{j},mC e' y=some j↔(y,j)∈e'.m:=OD (hR2.ux e' he');rw[Option.eq_none_iff_forall_not_mem,Option.eq_none_iff_forall_not_mem];constructor
     ·intro h j hj;by_cases d:y=x
      ·exact h s1.n (ns.mpr (eA _ (by rw[d];exact aA.mpr rfl)))
      ·exact h j (ns.mpr (pA _ (AA.mpr ⟨ns'.mp hj,nA d⟩)))
     ·intro h j hj;rcases dA.mp (ns.mp hj) with q|q
      ·exact h j (ns'.mpr (AA.mp q).1)
      ·have:y=x:=congrArg Prod.fst (aA.mp q);exact h s.n (by rw[this];exact hk)
    ·show (_++[_]).length<=_;rw[oA];have:(e'.m.filter λy=>decide (y.1≠x)).length < e'.m.length:=LB.mpr ⟨_,(OD (hR2.ux e' he')).mp hk,by simp⟩;show _+1<=_;omega
  ·rintro⟨v3,v4,S',es',e',kv',dn',rfl,hR',he',hek',hen',hed',hnn',hml',hfb',hkl',hown,hSl',hF',hdn',hfr⟩;rfl';rw[cA] at hkl' hdn';refine q S' es' kv' dn' G hR' hfb' (λo=>nfb (hown _ o)) hF' (λn x=>?_) ⋯ λc o h n1 n2=>hfr c o (s1 _ _ h) n1 n2;rw[hdn',VA,hmem]
inductive d9 (A:RC) (vs:List V) (H:Hp) (Q:VK) (E:XK):Prop where
 |mk (B:Hp) (r:Ro) (z:Hz) (l f g:Int) (tks:List Tk) (bk:Kvs) (made:Int) (S:List Sh) (es:List Ho) (_:vs=[.ref r.p]) (_:RH A B H r z l f g tks bk made S es) (_:PC S es) (_:S.length<=9000) (_:(∀e∈es,e.m.length < 64)) (_:tks.length < 64) (_:∀S' es' kv dn H',RH A B H' r z l f g tks bk made S' es'->Fo g S es S' es' kv dn->(∀e∈es',e.k=false->∀x,mC e x≠none->(e.n,x)∈dn)->(∀c o,H c=some o->¬AE r z S es c->H' c=some o)->Q (.int ((S.length:Int) - S'.length)) H'):d9 A vs H Q E
def f9 (A:RC):Sp:=d9 A
theorem nK (T:fD K mg A):AC P w K mg base A.Ab "fold" 4 ["self"] [] (f9 A):=by
 have Dz:=@RO P w K mg base A T;refine T.Hi.have lQ (λvs H Q E z=>?_) ?_
 ·obtain⟨B,r,z,l,f,g,tks,bk,made,S,es,rfl,_⟩:=z;rfl
 ·intro f cdv A' outer s H vs Q E hr z;obtain⟨B,r,z,l,f',g,tks,bk,made,S,es,rfl,hR,hP,hSl,hml,htl,q⟩:=z;obtain⟨dx,h1⟩:=hR.s.me;refine⟨_,(CC (iD (i:=1) lQ.nd rfl (Or.inl rfl) (rF PN rfl T.A7 PySem.boot_len (iC (cD (eC 0) rfl) rC)))
   (CC (iD (i:=2) lQ.nd rfl (Or.inl rfl) RP)
   (CC (GH aB rfl (BI (rF (Q5 rfl) rfl T.Gz PyProof.Rows.boot_sorted (iC (cD (eC 0) rfl) rC))) (wF (i:=3) lQ.nd rfl (Or.inl rfl)) (FC (GE (HD (eC 0) T.Ac Dz (hr.mono (by decide)) GC (iC (VD (dD hr) (cD (eC 0) rfl) (eC 3) (λο ο=>rfl)) (iC (eC 2) rC))))))
   (FC (uD (BD tH (eC 1) (rF PN rfl T.A7 PySem.boot_len (iC (cD (eC 0) rfl) rC)))))))),?_⟩
  unfold tDNewT pD;rfl';simp only[h1];rfl';refine⟨T.Ac,T.Ai,_,WH,r.sd,rfl,_,hR.s.s,λfb hfb=>?_⟩;obtain⟨s1,g1⟩:=ZE (o:=.dT []) hfb;have nfb:=hR.ex hfb;have hR1:=hR.same s1;generalize jC H fb (.dT [])=H1 at *;have hks:((RE es).map Ho.n)=tks.map Tk.n:=hR.nm;refine⟨_,dx,_,s1 _ _ h1,T.Ac,T.Al,_,UI,r.pd,rfl,FE (RE es),.inl hR1.pd,(RE es).map Ho.n,by unfold FE;rw[lA,lA];rfl,by rw[hks,cA];exact htl,λl0 ms hl0 hpm ο=>?_⟩;obtain⟨s2,g2⟩:=ZE (o:=.lst (ms.map V.int)) hl0;have hR2:=hR1.same s2;have nl0:=hR1.ex hl0;have gfb2:=s2 _ _ g1;have nlf:l0≠fb:=λz=>by rw[z,g1] at hl0;cases hl0
  generalize jC H1 l0 (.lst (ms.map V.int))=H2 at *;have hmsl:ms.length=tks.length:=by rw[hpm.length_eq,hks,cA]
  have ndm:ms.Nodup:=hpm.nodup_iff.mpr (by rw[hks];exact hR.h.nk);have hF0:Fo g S es S es [] []:=⟨hP,λs hs=>⟨s,hs,rfl,rfl⟩,kA _,rfl,λe he=>⟨e,he,rfl,rfl,kA _,λy=>⟨rfl,Iff.rfl,λο=>rfl⟩⟩,λe he hk y k h=>⟨e,he,hk,y,h⟩,(λq v h=>by cases h),(λe he hk y k h=>by cases h)⟩
  refine⟨⟨_,QC.of g2⟩,SN (K:=K) (xs:=ms.map V.int) (λi σ G=>∃v3 S' es' kv dn,σ=[some (.ref r.p),some (.int ((tE S).length:Int)),some (.ref fb),v3]/\RH A B G r z l f' g tks bk made S' es'/\G fb=some (.dT kv)/\kv.length<=64 * i/\Fo g S es S' es' kv dn/\(∀c,AE r z S' es' c->AE r z S es c)/\(∀n x,(n,x)∈dn↔n∈ms.take i/\∃e∈es,e.k=false/\e.n=n/\mC e x≠none)/\∀c o,H2 c=some o->¬AE r z S es c->c≠fb->G c=some o) ⟨_,S,es,[],[],rfl,hR2,gfb2,aC _,hF0,λο h=>h,λn x=>⟨(λh=>by cases h),(λh=>by simp at h)⟩,λc o h ο ο=>h⟩ (λi σ G _ zz=>by obtain⟨_,_,_,_,_,zz⟩:=zz;exact QC.of (zz.2.2.2.2.2.2.2 _ _ g2 (λo=>nl0 o) nlf)) (λi v σ G hi=>?_) (λσ G=>?_)⟩
  ·rintro⟨v3,S',es',kv,dn,rfl,hR',hfb',hkl,hF',hown,hdn,hfr⟩;rw[QA] at hi;obtain⟨n,hn,rfl⟩:=XA.mp hi;have hil:=(IA.mp hn).1;have htk:ms.take (i+1)=ms.take i++[n]:=by rw[NA,hn];rfl
   have hnt:n∈tks.map Tk.n:=by rw[<-hks];exact hpm.mem_iff.mp (JA hn)
   obtain⟨t,ht,rfl⟩:=bA.mp hnt;obtain⟨e',he',k1,k2,hpv⟩:=hR'.pv ht;obtain⟨dx',h1'⟩:=hR'.s.me;have nin:t.n∉ms.take i:=λz=>by
    have h3:(ms.take (i+1)).Nodup:=ndm.sublist (jB _ _);rw[htk,zA] at h3;exact h3.2.2 _ z _ (aA.mpr rfl) rfl
   obtain⟨e0,he0,b1,b2,b3,b4⟩:=hF'.pg e' he';have hl0':=hml e0 he0;have hsl':=hF'.sl;rfl';refine⟨dx',_,h1',QE ∅,_,dx',_,h1',T.Ac,T.Al,_,UI,r.pd,rfl,_,.inl ⟨_,Sum.inl t.n,.inl hR'.pd,rfl,hpv.symm⟩,B,r,z,l,f',g,tks,bk,made,S,es,S',es',e',fb,kv,dn,rfl,hR',he',k1,hfb',λo=>nfb (hown _ o),hF',(λx z=>nin (by have:=((hdn _ _).mp z).1;rw[k2] at this;exact this)),⋯,⋯,⋯,λS2 es2 kv2 dn2 H3 hR3 hfb3 nfb3 hF3 hdn3 hkl3 hfr3=>?_⟩;refine⟨S2,es2,hR3,kv2,hfb3,⋯,dn2,hF3,λc=>hF3.own,λn x=>?_,λc o h n1 n2=>hfr3 c o (hfr c o h n1 n2) (λo=>n1 (hown c o)) n2⟩;rw[hdn3,hdn,htk,dA,aA];constructor
   ·rintro (⟨h3,h4⟩|⟨rfl,h3⟩)
    ·exact⟨.inl h3,h4⟩
    ·exact⟨.inr k2,e0,he0,b1.trans k1,b2,λh4=>h3 ((b4 x).2.1.mpr h4)⟩
   ·rintro⟨h3|rfl,e,he,c1,c2,c3⟩
    ·exact .inl ⟨h3,e,he,c1,c2,c3⟩
    ·obtain rfl:=hR.one he he0 (c1.trans (b1.trans k1).symm) (c2.trans (b2.trans k2).symm);exact .inr ⟨k2.symm,λh4=>c3 ((b4 x).2.1.mp h4)⟩
  ·rintro⟨v3,S',es',kv,dn,rfl,hR',hfb',hkl,hF',hown,hdn,hfr⟩;obtain⟨dx',h1'⟩:=hR'.s.me;rw[cA,VA] at hdn;rfl';refine⟨_,dx',_,h1',T.Ac,T.Ai,_,WH,r.sd,rfl,_,hR'.s.s,?_⟩;rw[show (tE S).length=S.length from cA .., show (tE S').length=S'.length from cA ..];refine q S' es' kv dn G hR' hF' (λe he hk x hx=>?_) λc o h n1=>hfr c o (s2 _ _ (s1 _ _ h)) n1 (λz=>by rw[z,hfb] at h;cases h);obtain⟨e0,he0,b1,b2,b3,b4⟩:=hF'.pg e he;refine (hdn _ _).mpr ⟨hpm.mem_iff.mpr ?_,e0,he0,b1.trans hk,b2,λh4=>hx ((b4 x).2.1.mpr h4)⟩;rw[hks,<-hR'.nm];exact bA.mpr ⟨e,AA.mpr ⟨he,by rw[hk];rfl⟩,rfl⟩
inductive i9 (vs:List V) (H:Hp) (Q:VK) (E:XK):Prop where
 |mk (c p m:Int) (_:vs=[.int c,.int p,.int m]) (_:0<=p) (_:p < 4) (_:0 < m) (_:∀v H',0<=v->v < m->uC H H'->Q (.int v) H'):i9 vs H Q E
def sp_part:Sp:=i9
theorem fM (T:fD K mg A):TD P w K mg base "_law_part" 1 ["_law_cell","_law_place","_law_many"] [] sp_part:=by
 refine T.Kh.have X6 (λvs H Q E z=>?_) ?_
 ·obtain⟨c,p,m,rfl,_⟩:=z;rfl
 ·intro f cdv A' outer s H vs Q E hr z;obtain⟨c,p,m,rfl,hp0,hp1,hm,q⟩:=z;refine⟨_,(CC (iD (i:=3) X6.nd rfl (Or.inl rfl) (GD aL (gI (iC yC (iC yC (iC yC (iC yC rC))))) (eC 1) (λο ο=>rfl)))
   (FC (uD (BD eI (BD eI (BD uN (BD aG (BD eI (eC 0) (eC 3)) yC) yC) (eC 3)) (eC 2))))),?_⟩
  rfl';intro p1 hp;have fin:∀v,Q (.int (v % m)) (jC H p1 (.lst [V.int 7919,V.int 6007,V.int 5003,V.int 9973])):=λv=>q _ _ (Int.emod_nonneg _ ⋯) (Int.emod_lt_of_pos _ hm) (bE LD hp);obtain rfl|rfl|rfl|rfl:p=0\/p=1\/p=2\/p=3:=⋯
  ·exact⟨_,rfl,7919,rfl,by decide,7919,rfl,by decide,hm,fin _⟩
  ·exact⟨_,rfl,6007,rfl,by decide,6007,rfl,by decide,hm,fin _⟩
  ·exact⟨_,rfl,5003,rfl,by decide,5003,rfl,by decide,hm,fin _⟩
  ·exact⟨_,rfl,9973,rfl,by decide,9973,rfl,by decide,hm,fin _⟩
inductive j9 (vs:List V) (H:Hp) (Q:VK) (E:XK):Prop where
 |mk (v d:Int) (_:vs=[.int v,.int d]) (_:Q (.bl (decide (v=d))) H):j9 vs H Q E
def sp_whole:Sp:=j9
theorem nU (T:fD K mg A):TD P w K mg base "_law_whole" 1 ["_law_found","_law_due"] [] sp_whole:=by
 refine T.Jw.have jg (λvs H Q E z=>?_) ?_
 ·obtain⟨v,d,rfl,_⟩:=z;rfl
 ·intro f cdv A' outer s H vs Q E hr z;obtain⟨v,d,rfl,q⟩:=z;refine⟨_,(FC (uD (yI (rF VP rfl T.Bh OB (iC (eC 0) (iC (UP (n:="int") rfl T.Ld PyProof.Rows.boot_int) rC))) (yI (U1 (rF VP rfl T.Bh OB (iC (eC 0) (iC (UP (n:="bool") rfl T.Jt PyProof.Rows.boot_bool) rC)))) (BM (DM EI (eC 0) (eC 1) (wC _))))))),?_⟩;rfl';exact⟨by decide,xD ⟨by decide,xD q⟩⟩
theorem oU {kvs:List (List Key×V)} {k:List Key} {v:V}:(∀z,z∈(JC kvs k v).map (·.1)↔z=k\/z∈kvs.map (·.1))/\((kvs.map (·.1)).Nodup->((JC kvs k v).map (·.1)).Nodup):=by
 by_cases c:gC kvs k=none
 ·rw[sJ _ c];have hk:k∉kvs.map (·.1):=λh=>by
   obtain⟨p,hp,e⟩:=bA.mp h
   induction kvs with
   |nil=>cases hp
   |cons q r ih=>
    by_cases c1:q.1=k
    ·rw[pG c1] at c;cases c
    ·rw[fG c1] at c;rcases vA.mp hp with rfl|hp
     ·exact c1 e
     ·exact ih c (bA.mpr ⟨p,hp,e⟩) hp
  refine⟨λz=>?_,λh=>?_⟩
  ·rw[gA,dA];exact⟨λh=>h.elim .inr λh=>.inl (aA.mp h),λh=>h.elim (λh=>.inr (aA.mpr h)) .inl⟩
  ·rw[gA,zA];exact⟨h,by simp,λx hx y hy e=>hk (by have hy:y=k:=aA.mp hy;rw[<-hy,<-e];exact hx)⟩
 ·have hs:(gC kvs k).isSome=true:=by cases e:gC kvs k with
   |none=>exact absurd e c
   |some _=>rfl
  have e:(JC kvs k v).map (·.1)=kvs.map (·.1):=by
   unfold JC;rw[lI,iA hs,lA];refine DA λp ο=>?_;show (if p.1=k then (p.1,v) else p).1=p.1
   split<;>rfl
  have hk:k∈kvs.map (·.1):=by
   clear e hs
   induction kvs with
   |nil=>exact absurd rfl c
   |cons q r ih=>
    by_cases c1:q.1=k
    ·rw[yA,c1];exact qA ..
    ·rw[fG c1] at c;exact xA _ (ih c)
  rw[e];exact⟨λz=>⟨.inr,λh=>h.elim (λh=>by rw[h];exact hk) id⟩,id⟩
set_option tactic.hygienic true in
theorem oK (val:Nat->Int):∀i,(PyProof.Rows.firstMet val i).Nodup
 |0=>by rw[PyProof.Rows.firstMet_zero];exact .nil
 |i+1=>by
  have ih:=oK val i;rw[PyProof.Rows.firstMet_succ];unfold PyProof.Rows.step_dedup
  split
  ·exact ih
  ·rename_i h;rw[zA];refine⟨ih,by simp,λa ha b hb e=>?_⟩;have hb:b=val i:=by simpa using hb
   apply h;exact List.any_eq_true.mpr ⟨a,ha,by rw[e,hb];exact beq_self_eq_true _⟩
theorem gM (val:Nat->Int) (i:Nat) (k:Int):k∈PyProof.Rows.firstMet val i↔k∈(List.range i).map val:=by
 have h:=PyProof.Rows.firstMet_any val i k;have e:∀xs:List Int,xs.any (· == k)=true↔k∈xs:=λxs=>by
  rw[List.any_eq_true];constructor
  ·rintro⟨x,hx,he⟩;rw[<-(EB.mp he)];exact hx
  ·intro hk;exact⟨k,hk,beq_self_eq_true _⟩
 rw[<-e,<-e,h]
theorem Zh {ns ms:List Int} (nd:ms.Nodup) (h:∀k,k∈ns↔k∈ms):kG ns=ms.length:=by
 unfold kG;refine ((List.perm_ext_iff_of_nodup (oK _ _) nd).mpr λk=>?_).length_eq;rw[gM,<-h];have e:(List.range ns.length).map (λi=>ns.getD i 0)=ns:=by
  refine List.ext_getElem? λj=>?_;rw[QA];by_cases c:j < ns.length
  ·rw[List.getElem?_range c,GA c];show some (ns.getD j 0)=_;rw[List.getD_eq_getElem?_getD,GA c];rfl
  ·rw[List.getElem?_eq_none (by rw[ZB];omega),List.getElem?_eq_none ⋯];rfl
 rw[e]
def kn (e:Ho):Int:=if e.k then 2 else e.n
theorem mH {e e':Ho} (h1:e.k=e'.k) (h2:e.n=e'.n):kn e=kn e':=by unfold kn;rw[h1,h2]
structure Tn (S:List Sh) (es:List Ho) (kvs:List (List Key×V)) (τ:Int->Int) (u:Int):Prop where
 nk:(kvs.map (·.1)).Nodup
 mem:∀k v,gC kvs k=some v↔∃e∈es,∃y∈e.m,k=[Sum.inl (kn e),Sum.inl y.1]/\v=V.int (τ y.2)
 inj:∀s∈S,∀s'∈S,τ s.n=τ s'.n->s.n=s'.n
 lt:∀s∈S,0<=τ s.n/\τ s.n < u
theorem nH {kvs:List (List Key×V)} {k:List Key} {v:V} (nk:(kvs.map (·.1)).Nodup):gC kvs k=some v↔(k,v)∈kvs:=by
 unfold gC;constructor
 ·intro h;cases e:kvs.find? λkv=>decide (kv.1=k) with
  |none=>rw[e] at h;cases h
  |some y=>
   rw[e] at h;have h1:=sB e;have h1:y.1=k:=UA h1;have h2:=WA e;have h:y.2=v:=rA h;rw[<-h,<-h1];exact h2
 ·intro h;cases e:kvs.find? λkv=>decide (kv.1=k) with
  |none=>exact absurd (nA (rfl:k=k)) (kB.mp e _ h)
  |some y=>
   have h1:=sB e;have h1:y.1=k:=UA h1;have h2:=WA e;rw[cE nk h2 h h1]
   rfl
def ZH (τ:Int->Int) (es:List Ho):List (List Key×V):=(es.map λe=>e.m.map λy=>(([Sum.inl (kn e),Sum.inl y.1]:List Key),V.int (τ y.2))).flatten
theorem pU {τ:Int->Int} {e:Ho} {es:List Ho}:ZH τ (e::es)=(e.m.map λy=>(([Sum.inl (kn e),Sum.inl y.1]:List Key),V.int (τ y.2)))++ZH τ es:=rfl
theorem k9 {τ:Int->Int} {es:List Ho} {k:List Key} {v:V}:(k,v)∈ZH τ es↔∃e∈es,∃y∈e.m,k=[Sum.inl (kn e),Sum.inl y.1]/\v=V.int (τ y.2):=by
 unfold ZH;rw[List.mem_flatten];constructor
 ·rintro⟨q,hq,hk⟩;obtain⟨e,he,rfl⟩:=bA.mp hq;obtain⟨y,hy,e1⟩:=bA.mp hk;exact⟨e,he,y,hy,(congrArg Prod.fst e1).symm,(congrArg Prod.snd e1).symm⟩
 ·rintro⟨e,he,y,hy,rfl,rfl⟩;exact⟨_,bA.mpr ⟨e,he,rfl⟩,bA.mpr ⟨y,hy,rfl⟩⟩
theorem o9 {τ:Int->Int}:∀{es:List Ho},(es.map kn).Nodup->(∀e∈es,(e.m.map (·.1)).Nodup)->((ZH τ es).map (·.1)).Nodup
 |[],_,_=>.nil
 |e::es,nn,ux=>by
  rw[yA,OA] at nn;rw[pU,gA,zA];refine⟨?_,o9 nn.2 λe' he'=>ux e' (xA _ he'),?_⟩
  ·rw[lA];have:=ux e (qA ..);refine CB.mpr ((CB.mp this).imp λ{a b} h z=>h ?_);have z:([Sum.inl (kn e),Sum.inl a.1]:List Key)=[Sum.inl (kn e),Sum.inl b.1]:=z;injection z with _ z;injection z with z _;exact YA z
  ·intro a ha b hb e0;rw[lA] at ha;obtain⟨y,_,rfl⟩:=bA.mp ha;obtain⟨⟨k,v⟩,hkv,rfl⟩:=bA.mp hb;obtain⟨e',he',y',_,e1,_⟩:=k9.mp hkv;have e0:([Sum.inl (kn e),Sum.inl y.1]:List Key)=k:=e0;rw[e1] at e0;injection e0 with e0 _;exact nn.1 (bA.mpr ⟨e',he',(YA e0).symm⟩)
theorem qU {τ:Int->Int}:∀{es:List Ho},(ZH τ es).map (·.2)=(ED es).map λk=>V.int (τ k)
 |[]=>rfl
 |e::es=>by
  rw[pU,LO,gA,gA,qU,lA,lA]
  rfl
theorem pK {α β:Type} {f:α->β} {xs:List α} (h:(xs.map f).Nodup):xs.Nodup:=(CB.mp h).imp λ{_ _} h e=>h (by rw[e])
theorem Tn.perm {S:List Sh} {es:List Ho} {kvs:List (List Key×V)} {τ:Int->Int} {u:Int} (h:Tn S es kvs τ u) (nn:(es.map kn).Nodup) (ux:∀e∈es,(e.m.map (·.1)).Nodup):kvs.Perm (ZH τ es):=
 (List.perm_ext_iff_of_nodup (pK h.nk) (pK (o9 nn ux))).mpr λ⟨k,v⟩=>by rw[<-nH h.nk,h.mem,k9]
def tI:V->Int
 |.int i=>i
 |_=>0
theorem Tn.ints {S:List Sh} {es:List Ho} {kvs:List (List Key×V)} {τ:Int->Int} {u:Int} (h:Tn S es kvs τ u):∀kv∈kvs,kv.2=V.int (tI kv.2):=λkv hk=>by
 obtain⟨_,_,_,_,_,e⟩:=(h.mem kv.1 kv.2).mp ((nH h.nk).mpr hk);rw[e]
 rfl
theorem Tn.live {S:List Sh} {es:List Ho} {kvs:List (List Key×V)} {τ:Int->Int} {u:Int} (h:Tn S es kvs τ u) (hp:PC S es) (sn:(S.map Sh.n).Nodup) (nn:(es.map kn).Nodup) (ux:∀e∈es,(e.m.map (·.1)).Nodup):kG (kvs.map λkv=>tI kv.2)=S.length:=by
 have hpm:=(h.perm nn ux).map λkv=>tI kv.2;have e1:(ZH τ es).map (λkv=>tI kv.2)=(ED es).map τ:=by
  have:=congrArg (List.map tI) (qU (τ:=τ) (es:=es));rw[lA,lA] at this;exact this
 rw[e1] at hpm;have nd:(S.map λs=>τ s.n).Nodup:=by
  refine CB.mpr ((CB.mp sn).imp_of_mem λ{a b} ha hb hne z=>hne (h.inj a ha b hb z))
 rw[Zh nd λk=>?_,cA];rw[hpm.mem_iff,bA,bA];constructor
 ·rintro⟨x,hx,rfl⟩;unfold ED at hx;obtain⟨q,hq,hx⟩:=List.mem_flatten.mp hx;obtain⟨e,he,rfl⟩:=bA.mp hq;obtain⟨y,hy,rfl⟩:=bA.mp hx;obtain⟨s,hs,e2⟩:=hp.liv e he y hy;exact⟨s,hs,by rw[e2]⟩
 ·rintro⟨s,hs,rfl⟩;refine⟨s.n,?_,rfl⟩;have h1:=hp.cnt s hs;have h2:=hp.pos s hs;exact List.count_pos_iff.mp ⋯
theorem Tn.alike {S:List Sh} {es:List Ho} {kvs:List (List Key×V)} {τ:Int->Int} {u:Int} (h:Tn S es kvs τ u) (hp:PC S es) (nn:(es.map kn).Nodup) (ux:∀e∈es,(e.m.map (·.1)).Nodup) {s:Sh} (hs:s∈S):((kvs.countP λkv=>decide (kv.2=V.int (τ s.n)):Nat):Int)=s.h:=by
 rw[hp.cnt s hs,(h.perm nn ux).countP_eq];have e1:(ZH τ es).countP (λkv=>decide (kv.2=V.int (τ s.n)))=((ZH τ es).map (·.2)).countP λv=>decide (v=V.int (τ s.n)):=by rw[List.countP_map];rfl
 rw[e1,qU,List.countP_map,List.count_eq_countP];congr 1;refine List.countP_congr λk hk=>?_;have hl:∃s'∈S,s'.n=k:=by
  unfold ED at hk;obtain⟨q,hq,hx⟩:=List.mem_flatten.mp hk;obtain⟨e,he,rfl⟩:=bA.mp hq;obtain⟨y,hy,rfl⟩:=bA.mp hx;exact hp.liv e he y hy
 obtain⟨s',hs',rfl⟩:=hl;show decide (V.int (τ s'.n)=V.int (τ s.n))=true↔(s'.n == s.n)=true;rw[decide_eq_true_iff,EB];constructor
 ·intro z;injection z with z;exact h.inj s' hs' s hs z
 ·intro z;rw[z]
theorem Tn.get {S:List Sh} {es:List Ho} {kvs:List (List Key×V)} {τ:Int->Int} {u:Int} (h:Tn S es kvs τ u) (nn:(es.map kn).Nodup) {e:Ho} (he:e∈es) (ux:(e.m.map (·.1)).Nodup) (x:Int):gC kvs [Sum.inl (kn e),Sum.inl x]=(mC e x).map λk=>V.int (τ k):=by
 cases e0:mC e x with
 |some k=>exact (h.mem _ _).mpr ⟨e,he,_,(OD ux).mp e0,rfl,rfl⟩
 |none=>
  cases e1:gC kvs [Sum.inl (kn e),Sum.inl x] with
  |none=>rfl
  |some v=>
   exfalso;obtain⟨e',he',y,hy,q1,_⟩:=(h.mem _ _).mp e1;injection q1 with q1 q2;injection q2 with q2 _;obtain rfl:=cE nn he he' (YA q1);have q2:=YA q2;have:mC e x=some y.2:=(OD ux).mpr (by rw[q2];exact hy);rw[e0] at this;cases this
theorem q9 {g:Int} {m:List (Int×Int)} {S:List Sh} {e:Ho} {y:Int}:BC g (sD m S) e y=BC g S e y:=by
 have h:∀k,AD (sD m S) k=AD S k:=λk=>by
  unfold AD sD;rw[List.find?_map,Option.map_map]
  rfl
 unfold BC;cases mC e y with
 |none=>rfl
 |some k=>show (AD (sD m S) k).getD _=(AD S k).getD _;rw[h]
theorem t9 {α β:Type} {R:α->β->Prop}:∀{xs:List α} {ys:List β},Paired R xs ys->∀{i:Nat} {y:β},ys[i]?=some y->∃x,xs[i]?=some x/\R x y
 |_,_,.nil,i,y,h=>by simp at h
 |_,_,.cons (a:=a) r t,0,y,h=>⟨a,rfl,by rw[<-rA h];exact r⟩
 |_,_,.cons r t,i+1,y,h=>t9 t h
noncomputable abbrev k2 (n y:Int):List Key:=[Sum.inl n,Sum.inl y]
theorem EE {n y n' y':Int} (h:k2 n y=k2 n' y'):n=n'/\y=y':=by
 injection h with h1 h2;injection h2 with h2 _;exact⟨YA h1,YA h2⟩
def Nb (es:List Ho) (q:List Key) (k:Int):Prop:=∃e∈es,∃y∈e.m,q=k2 (kn e) y.1/\k=y.2
def bq (q:List Key):Prop:=∃y,q=k2 2 y
theorem Tn.nb {S:List Sh} {es:List Ho} {kvs:List (List Key×V)} {τ:Int->Int} {u:Int} (h:Tn S es kvs τ u) {q:List Key} {v:V}:gC kvs q=some v↔∃k,Nb es q k/\v=V.int (τ k):=by
 rw[h.mem];constructor
 ·rintro⟨e,he,y,hy,q1,q2⟩;exact⟨y.2,⟨e,he,y,hy,q1,rfl⟩,q2⟩
 ·rintro⟨k,⟨e,he,y,hy,q1,rfl⟩,q2⟩;exact⟨e,he,y,hy,q1,q2⟩
theorem PC.nb {S:List Sh} {es:List Ho} (h:PC S es) {q:List Key} {k:Int} (hn:Nb es q k):∃s∈S,s.n=k:=by
 obtain⟨e,he,y,hy,_,rfl⟩:=hn;exact h.liv e he y hy
theorem PC.on {S:List Sh} {es:List Ho} (h:PC S es) {s:Sh} (hs:s∈S):∃q,Nb es q s.n:=by
 have h1:=h.cnt s hs;have h2:=h.pos s hs;obtain⟨e,he,y,hy,e1⟩:=yQ.mp (List.count_pos_iff.mp (show 0 < (ED es).count s.n by omega));exact⟨_,e,he,y,hy,rfl,e1.symm⟩
theorem Tn.same {S:List Sh} {es:List Ho} {kvs:List (List Key×V)} {τ:Int->Int} {u:Int} (h:Tn S es kvs τ u) (hp:PC S es) {q q':List Key} {k k':Int} (h1:Nb es q k) (h2:Nb es q' k') (e:τ k=τ k'):k=k':=by
 obtain⟨s,hs,rfl⟩:=hp.nb h1;obtain⟨s',hs',rfl⟩:=hp.nb h2;exact h.inj s hs s' hs' e
structure Fd (es es':List Ho) (R:List Key->List Int):Prop where
 one:∀q k k',Nb es' q k->Nb es' q k'->k=k'
 dom:∀q,(∃k,Nb es q k)↔∃k,Nb es' q k
 pv:∀q1 q2 k1 k2,¬bq q1->¬bq q2->Nb es' q1 k1->Nb es' q2 k2->(k1=k2↔R q1=R q2)
 bn:∀q k,bq q->(Nb es' q k↔Nb es q k)
 old:∀q k,¬bq q->Nb es' q k->∃q',¬bq q'/\Nb es q' k
structure Fl (R:List Key->List Int) (kvs kvs':List (List Key×V)):Prop where
 nk:(kvs'.map (·.1)).Nodup
 dom:∀q,(∃v,gC kvs' q=some v)↔∃v,gC kvs q=some v
 pv:∀q1 q2 v1 v2,¬bq q1->¬bq q2->gC kvs' q1=some v1->gC kvs' q2=some v2->(v1=v2↔R q1=R q2)
 bn:∀q,bq q->gC kvs' q=gC kvs q
 old:∀q v,¬bq q->gC kvs' q=some v->∃q',¬bq q'/\R q'=R q/\gC kvs q'=some v
def iM (es:List Ho):Prop:=∀q q' k,¬bq q->bq q'->Nb es q k->¬Nb es q' k
theorem Tn.folded {S S':List Sh} {es es':List Ho} {kvs kvs':List (List Key×V)} {τ:Int->Int} {u:Int} {R:List Key->List Int} (h:Tn S es kvs τ u) (hp:PC S es) (hp':PC S' es') (sep:iM es) (f:Fd es es' R) (w:Fl R kvs kvs'):∃τ',Tn S' es' kvs' τ' u:=by
 have val:∀{q k},Nb es' q k->∃i:Int,gC kvs' q=some (V.int i)/\∃q' k',Nb es q' k'/\i=τ k'/\(bq q'↔bq q):=λ{q k} hn=>by
  obtain⟨k0,h0⟩:=(f.dom q).mpr ⟨k,hn⟩;obtain⟨v,hv⟩:=(w.dom q).mpr ⟨_,h.nb.mpr ⟨k0,h0,rfl⟩⟩;by_cases b:bq q
  ·obtain⟨k1,h1,e1⟩:=h.nb.mp ((w.bn q b).symm.trans hv);exact⟨τ k1,by rw[hv,e1],q,k1,h1,rfl,Iff.rfl⟩
  ·obtain⟨q',b',_,hv'⟩:=w.old q v b hv;obtain⟨k1,h1,e1⟩:=h.nb.mp hv';exact⟨τ k1,by rw[hv,e1],q',k1,h1,rfl,⟨λz=>absurd z b',λz=>absurd z b⟩⟩
 have key:∀{q1 q2 k1 k2 v1 v2},Nb es' q1 k1->Nb es' q2 k2->gC kvs' q1=some v1->gC kvs' q2=some v2->(k1=k2↔v1=v2):=λ{q1 q2 k1 k2 v1 v2} n1 n2 e1 e2=>by
  have mix:∀{q1 q2 k1 k2 v1 v2},¬bq q1->bq q2->Nb es' q1 k1->Nb es' q2 k2->gC kvs' q1=some v1->gC kvs' q2=some v2->k1≠k2/\v1≠v2:=λ{q1 q2 k1 k2 v1 v2} b1 b2 n1 n2 e1 e2=>by
   have m2:=(f.bn q2 k2 b2).mp n2;constructor
   ·rintro rfl;obtain⟨q',b',m1⟩:=f.old q1 k1 b1 n1;exact sep q' q2 k1 b' b2 m1 m2
   ·rintro rfl;obtain⟨q',b',_,m1⟩:=w.old q1 v1 b1 e1;obtain⟨k3,m3,e3⟩:=h.nb.mp m1;obtain⟨k4,m4,e4⟩:=h.nb.mp ((w.bn q2 b2).symm.trans e2);have e5:k3=k4:=h.same hp m3 m4 (V.int.inj (e3.symm.trans e4));exact sep q' q2 k3 b' b2 m3 (by rw[e5];exact m4)
  by_cases b1:bq q1<;>by_cases b2:bq q2
  ·have m1:=(f.bn q1 k1 b1).mp n1;have m2:=(f.bn q2 k2 b2).mp n2;obtain⟨k3,m3,e3⟩:=h.nb.mp ((w.bn q1 b1).symm.trans e1);obtain⟨k4,m4,e4⟩:=h.nb.mp ((w.bn q2 b2).symm.trans e2);have z1:k3=k1:=f.one q1 k3 k1 ((f.bn q1 k3 b1).mpr m3) n1;have z2:k4=k2:=f.one q2 k4 k2 ((f.bn q2 k4 b2).mpr m4) n2;rw[e3,e4,z1,z2];exact⟨λz=>by rw[z],λz=>h.same hp m1 m2 (V.int.inj z)⟩
  ·obtain⟨z1,z2⟩:=mix b2 b1 n2 n1 e2 e1;exact⟨λz=>absurd z.symm z1,λz=>absurd z.symm z2⟩
  ·obtain⟨z1,z2⟩:=mix b1 b2 n1 n2 e1 e2;exact⟨λz=>absurd z z1,λz=>absurd z z2⟩
  ·exact (f.pv q1 q2 k1 k2 b1 b2 n1 n2).trans (w.pv q1 q2 v1 v2 b1 b2 e1 e2).symm
 let τ':Int->Int:=λk=>@dite _ (∃i:Int,∃q,Nb es' q k/\gC kvs' q=some (V.int i)) (Classical.propDecidable _) (λz=>z.choose) (λο=>0)
 have tv:∀{q k},Nb es' q k->gC kvs' q=some (V.int (τ' k)):=λ{q k} hn=>by
  obtain⟨i,hi,_⟩:=val hn;have z:∃i:Int,∃q,Nb es' q k/\gC kvs' q=some (V.int i):=⟨i,q,hn,hi⟩
  have e:τ' k=z.choose:=dif_pos z;obtain⟨q2,n2,e2⟩:=z.choose_spec;rw[hi,(key hn n2 hi e2).mp rfl,e]
 refine⟨τ',w.nk,λq v=>?_,λs hs s' hs' e=>?_,λs hs=>?_⟩
 ·constructor
  ·intro hv;obtain⟨v0,h0⟩:=(w.dom q).mp ⟨v,hv⟩;obtain⟨k0,n0,_⟩:=h.nb.mp h0;obtain⟨k,hk⟩:=(f.dom q).mp ⟨k0,n0⟩;have e9:=(tv hk).symm.trans hv;obtain⟨e,he,y,hy,q1,rfl⟩:=hk;exact⟨e,he,y,hy,q1,(rA e9).symm⟩
  ·rintro⟨e,he,y,hy,q1,rfl⟩;exact tv ⟨e,he,y,hy,q1,rfl⟩
 ·obtain⟨q,hq⟩:=hp'.on hs;obtain⟨q',hq'⟩:=hp'.on hs';exact (key hq hq' (tv hq) (tv hq')).mpr (by rw[e])
 ·obtain⟨q,hq⟩:=hp'.on hs;obtain⟨i,hi,q',k',n',e',_⟩:=val hq;obtain⟨s0,h0,rfl⟩:=hp.nb n';have e9:τ' s.n=i:=V.int.inj (rA ((tv hq).symm.trans hi));rw[e9,e'];exact h.lt s0 h0
theorem Tn.gone {S S':List Sh} {es es':List Ho} {kvs kvs':List (List Key×V)} {τ τ':Int->Int} {u:Int} {R:List Key->List Int} {G:List Int} (h:Tn S es kvs τ u) (h':Tn S' es' kvs' τ' u) (hp:PC S es) (hp':PC S' es') (nn:(S.map Sh.n).Nodup) (nn':(S'.map Sh.n).Nodup) (sep:iM es) (rn:∀q q' k,Nb es q k->Nb es q' k->R q=R q') (w:Fl R kvs kvs') (nd:G.Nodup) (hg:∀t,t∈G↔∃q,¬bq q/\gC kvs q=some (V.int t)/\gC kvs' q≠some (V.int t)):S.length=S'.length+G.length:=by
 have mm:∀{S:List Sh} {es:List Ho} {kvs:List (List Key×V)} {τ:Int->Int},Tn S es kvs τ u->PC S es->(S.map Sh.n).Nodup->(S.map λs=>τ s.n).Nodup/\∀t,t∈(S.map λs=>τ s.n)↔∃q,gC kvs q=some (V.int t):=λ{S es kvs τ} h hp nn=>by
  refine⟨CB.mpr ((CB.mp nn).imp_of_mem λ{a b} ha hb hne z=>hne (h.inj a ha b hb z)),λt=>?_⟩;rw[bA];constructor
  ·rintro⟨s,hs,rfl⟩;obtain⟨q,hq⟩:=hp.on hs;exact⟨q,h.nb.mpr ⟨_,hq,rfl⟩⟩
  ·rintro⟨q,hq⟩;obtain⟨k,hk,e⟩:=h.nb.mp hq;obtain⟨s,hs,rfl⟩:=hp.nb hk;exact⟨s,hs,(V.int.inj e).symm⟩
 obtain⟨d1,m1⟩:=mm h hp nn;obtain⟨d2,m2⟩:=mm h' hp' nn';have dis:∀t,t∈(S'.map λs=>τ' s.n)->t∈G->False:=λt ht hG=>by
  obtain⟨q1,b1,e1,e2⟩:=(hg t).mp hG;obtain⟨q2,e3⟩:=(m2 t).mp ht;obtain⟨k1,n1,z1⟩:=h.nb.mp e1;by_cases b2:bq q2
  ·obtain⟨k2,n2,z2⟩:=h.nb.mp ((w.bn q2 b2).symm.trans e3);have e5:k1=k2:=h.same hp n1 n2 (V.int.inj (z1.symm.trans z2));exact sep q1 q2 k1 b1 b2 n1 (by rw[e5];exact n2)
  ·obtain⟨q3,b3,r3,e4⟩:=w.old q2 _ b2 e3;obtain⟨k3,n3,z3⟩:=h.nb.mp e4;have e5:k1=k3:=h.same hp n1 n3 (V.int.inj (z1.symm.trans z3));have r1:R q1=R q2:=(rn q1 q3 k1 n1 (by rw[e5];exact n3)).trans r3;obtain⟨v1,hv1⟩:=(w.dom q1).mpr ⟨_,e1⟩;rw[(w.pv q1 q2 v1 _ b1 b2 hv1 e3).mpr r1] at hv1;exact e2 hv1
 have hpm:(S.map λs=>τ s.n).Perm ((S'.map λs=>τ' s.n)++G):=(List.perm_ext_iff_of_nodup d1 (zA.mpr ⟨d2,nd,λa ha b hb e=>dis a ha (by rw[e];exact hb)⟩)).mpr λt=>by
  rw[m1,dA,m2];constructor
  ·rintro⟨q,hq⟩;by_cases b:bq q
   ·exact .inl ⟨q,(w.bn q b).trans hq⟩
   ·by_cases c:gC kvs' q=some (V.int t)
    ·exact .inl ⟨q,c⟩
    ·exact .inr ((hg t).mpr ⟨q,b,hq,c⟩)
  ·rintro (⟨q,hq⟩|hG)
   ·by_cases b:bq q
    ·exact⟨q,(w.bn q b).symm.trans hq⟩
    ·obtain⟨q',_,_,e⟩:=w.old q _ b hq;exact⟨q',e⟩
   ·obtain⟨q,_,e,_⟩:=(hg t).mp hG;exact⟨q,e⟩
 have:=hpm.length_eq;rw[oA,cA,cA] at this;exact this
def fH (τ:Int->Int) (made u:Int):Int->Int:=λk=>if k=made then u else τ k
theorem SO {k:Bool} {n:Int} {m:List (Int×Int)} {es:List Ho} {e':Ho} (h:e'∈WC k n m es):∃e0∈es,(e0.k=k/\e0.n=n/\e'={e0 with m:=m})\/(¬(e0.k=k/\e0.n=n)/\e'=e0):=by
 obtain⟨e0,h0,rfl⟩:=bA.mp h;refine⟨e0,h0,?_⟩;by_cases c:e0.k=k/\e0.n=n
 ·exact .inl ⟨c.1,c.2,iA c⟩
 ·exact .inr ⟨c,fA c⟩
theorem sU {m:List (Int×Int)} {es:List Ho} {e e':Ho} (h:e'∈es) (hn:kn e'≠kn e):e'∈WC e.k e.n m es:=bA.mpr ⟨e',h,fA λz=>hn (mH z.1 z.2)⟩
theorem Tn.put {S S':List Sh} {es:List Ho} {kvs:List (List Key×V)} {τ:Int->Int} {u:Int} {e:Ho} {m:List (Int×Int)} {y made:Int} (h:Tn S es kvs τ u) (nn:(es.map kn).Nodup) (he:e∈es) (liv:∀e∈es,∀y∈e.m,∃s∈S,s.n=y.2) (hb:∀s∈S,s.n < made) (hm:∀w:Int×Int,w∈m↔w=(y,made)\/(w∈e.m/\w.1≠y)) (hS:∀s∈S',s.n=made\/∃s0∈S,s0.n=s.n) (h0:0<=u):Tn S' (WC e.k e.n m es) (JC kvs (k2 (kn e) y) (.int u)) (fH τ made u) (u+1):=by
 have tp:∀e'∈es,∀w∈e'.m,fH τ made u w.2=τ w.2:=λe' he' w hw=>by
  obtain⟨s,hs,e1⟩:=liv e' he' w hw;have:=hb s hs;exact fA ⋯
 have tm:fH τ made u made=u:=iA rfl;have ts:∀s∈S,fH τ made u s.n=τ s.n:=λs hs=>fA (by have:=hb s hs;omega);refine⟨oU.2 h.nk,λq v=>?_,λs hs s' hs'=>?_,λs hs=>?_⟩
 ·rw[PK];by_cases c:q=k2 (kn e) y
  ·rw[iA c];constructor
   ·intro z;exact⟨_,YI he,(y,made),(hm _).mpr (.inl rfl),c,by rw[tm];exact (rA z).symm⟩
   ·rintro⟨e',he',w,hw,q1,q2⟩;obtain⟨e0,h1,⟨k1,k3,rfl⟩|⟨k1,rfl⟩⟩:=SO he'
    ·rcases (hm w).mp hw with rfl|⟨_,hne⟩
     ·rw[q2,tm]
     ·exact absurd (EE (c.symm.trans q1)).2.symm hne
    ·obtain rfl:=cE nn h1 he (EE (c.symm.trans q1)).1.symm;exact absurd ⟨rfl,rfl⟩ k1
  ·rw[fA c,h.mem];constructor
   ·rintro⟨e',he',w,hw,q1,q2⟩;by_cases d:kn e'=kn e
    ·obtain rfl:=cE nn he' he d;exact⟨_,YI he',w,(hm w).mpr (.inr ⟨hw,λz=>c (by rw[q1,z])⟩),q1,by rw[tp e' he' w hw];exact q2⟩
    ·exact⟨e',sU he' d,w,hw,q1,by rw[tp e' he' w hw];exact q2⟩
   ·rintro⟨e',he',w,hw,q1,q2⟩;obtain⟨e0,h1,⟨k1,k3,rfl⟩|⟨k1,rfl⟩⟩:=SO he'
    ·obtain rfl:=cE nn h1 he (mH k1 k3);rcases (hm w).mp hw with rfl|⟨hw',_⟩
     ·exact absurd q1 c
     ·exact⟨e0,h1,w,hw',q1,by rw[<-tp e0 h1 w hw'];exact q2⟩
    ·exact⟨e',h1,w,hw,q1,by rw[<-tp e' h1 w hw];exact q2⟩
 ·intro z;rcases hS s hs with a|⟨s0,a1,a2⟩<;>rcases hS s' hs' with b|⟨s1,b1,b2⟩
  ·rw[a,b]
  ·rw[a,<-b2,tm,ts s1 b1] at z;have:=(h.lt s1 b1).2;omega
  ·rw[b,<-a2,tm,ts s0 a1] at z;have:=(h.lt s0 a1).2;omega
  ·rw[<-a2,<-b2,ts s0 a1,ts s1 b1] at z;rw[<-a2,<-b2];exact h.inj s0 a1 s1 b1 z
 ·rcases hS s hs with a|⟨s0,a1,a2⟩
  ·rw[a,tm];omega
  ·rw[<-a2,ts s0 a1];have:=h.lt s0 a1;omega
theorem Tn.on {S S':List Sh} {es:List Ho} {kvs:List (List Key×V)} {τ:Int->Int} {u:Int} (h:Tn S es kvs τ u) (hS:∀s∈S',∃s0∈S,s0.n=s.n):Tn S' es kvs τ (u+1):=by
 refine⟨h.nk,h.mem,λs hs s' hs' z=>?_,λs hs=>?_⟩
 ·obtain⟨s0,a1,a2⟩:=hS s hs;obtain⟨s1,b1,b2⟩:=hS s' hs';rw[<-a2,<-b2] at z ⊢;exact h.inj s0 a1 s1 b1 z
 ·obtain⟨s0,a1,a2⟩:=hS s hs;have:=h.lt s0 a1;rw[<-a2];omega
theorem u9 {g:Int} {S S':List Sh} {es:List Ho} {e:Ho} {m:List (Int×Int)} {y made:Int} {row:List Int} (nn:(es.map kn).Nodup) (he:e∈es) (ux:∀e∈es,(e.m.map (·.1)).Nodup) (um:(m.map (·.1)).Nodup) (liv:∀e∈es,∀y∈e.m,∃s∈S,s.n=y.2) (hm:∀w:Int×Int,w∈m↔w=(y,made)\/(w∈e.m/\w.1≠y)) (hv:∀s∈S,AD S' s.n=AD S s.n) (hr:AD S' made=some row):∀e0∈es,∃e'∈WC e.k e.n m es,kn e'=kn e0/\∀y',BC g S' e' y'=if kn e0=kn e/\y'=y then row else BC g S e0 y':=by
 have same:∀{e0:Ho},e0∈es->∀{y' k:Int},mC e0 y'=some k->AD S' k=AD S k:=λ{e0} h0 {y' k} hk=>by
  obtain⟨s,hs,e1⟩:=liv e0 h0 _ ((OD (ux e0 h0)).mp hk);have e1:s.n=k:=e1;rw[<-e1];exact hv s hs
 intro e0 h1;by_cases d:kn e0=kn e
 ·obtain rfl:=cE nn h1 he d;refine⟨_,YI h1,rfl,λy'=>?_⟩;by_cases c:y'=y
  ·rw[iA ⟨rfl,c⟩,c];have:mC ({e0 with m:=m}:Ho) y=some made:=(OD um).mpr ((hm _).mpr (.inl rfl));unfold BC;rw[this];show (AD S' made).getD _=_;rw[hr];rfl
  ·rw[fA λz=>c z.2];have e1:mC ({e0 with m:=m}:Ho) y'=mC e0 y':=by
    cases e2:mC e0 y' with
    |some k=>exact (OD um).mpr ((hm _).mpr (.inr ⟨(OD (ux e0 h1)).mp e2,c⟩))
    |none=>
     cases e3:mC ({e0 with m:=m}:Ho) y' with
     |none=>rfl
     |some k=>
      exfalso;rcases (hm _).mp ((OD um).mp e3) with z|⟨z,_⟩
      ·exact c (congrArg Prod.fst z)
      ·rw[(OD (ux e0 h1)).mpr z] at e2;cases e2
   unfold BC;rw[e1];cases e2:mC e0 y' with
   |none=>rfl
   |some k=>show (AD S' k).getD _=(AD S k).getD _;rw[same h1 e2]
 ·refine⟨e0,sU h1 d,rfl,λy'=>?_⟩;rw[fA λz=>d z.1];unfold BC;cases e2:mC e0 y' with
  |none=>rfl
  |some k=>show (AD S' k).getD _=(AD S k).getD _;rw[same h1 e2]
theorem two_count {α:Type} {p:α->Bool} {l:List α} {a b:α} (ha:a∈l) (hb:b∈l) (pa:p a=true) (pb:p b=true) (h:l.countP p<=1):a=b:=by
 rw[List.countP_eq_length_filter] at h;have h1:a∈l.filter p:=AA.mpr ⟨ha,pa⟩;have h2:b∈l.filter p:=AA.mpr ⟨hb,pb⟩;cases e:l.filter p with
 |nil=>rw[e] at h1;cases h1
 |cons x r=>
  rw[e] at h h1 h2;have:r=[]:=List.length_eq_zero_iff.mp (by rw[ZA] at h;omega);rw[this] at h1 h2;exact (aA.mp h1).trans (aA.mp h2).symm
theorem Tn.only {S:List Sh} {es:List Ho} {kvs:List (List Key×V)} {τ:Int->Int} {u k:Int} {e e':Ho} {y y':Int} (h:Tn S es kvs τ u) (nn:(es.map kn).Nodup) (ux:∀e∈es,(e.m.map (·.1)).Nodup) (he:e∈es) (hy:mC e y=some k) (h1:(kvs.countP λkv=>decide (kv.2=V.int (τ k)))<=1) (he':e'∈es) (hy':mC e' y'=some k):kn e'=kn e/\y'=y:=by
 have a1:=h.get nn he (ux e he) y;have a2:=h.get nn he' (ux e' he') y';rw[hy] at a1;rw[hy'] at a2;have z:=two_count (p:=λkv:List Key×V=>decide (kv.2=V.int (τ k))) ((nH h.nk).mp a2) ((nH h.nk).mp a1) (nA rfl) (nA rfl) h1;exact EE (congrArg Prod.fst z)
theorem ai {g:Int} {S:List Sh} {es:List Ho} {e e':Ho} {s:Sh} {y y':Int} {row:List Int} (nn:(S.map Sh.n).Nodup) (hs:s∈S) (hp:PC S es) (he:e∈es) (en:(es.map kn).Nodup) (ux:∀e∈es,(e.m.map (·.1)).Nodup) (hy:mC e y=some s.n) (one:∀e2∈es,∀y2,mC e2 y2=some s.n->kn e2=kn e/\y2=y) (he':e'∈es):BC g (FD s.n row S) e' y'=if kn e'=kn e/\y'=y then row else BC g S e' y':=by
 have nn':((FD s.n row S).map Sh.n).Nodup:=by rw[x8];exact nn
 by_cases c:kn e'=kn e/\y'=y
 ·rw[iA c,c.2];obtain rfl:=cE en he' he c.1;unfold BC;rw[hy];show (AD (FD s.n row S) s.n).getD _=_;have:=kH nn' (s:={s with xs:=row}) (bA.mpr ⟨s,hs,iA rfl⟩);have this:AD (FD s.n row S) s.n=some row:=this;rw[this];rfl
 ·rw[fA c];unfold BC;cases e0:mC e' y' with
  |none=>rfl
  |some k=>
   obtain⟨s1,hs1,e1⟩:=hp.liv e' he' _ ((OD (ux e' he')).mp e0);have e1:s1.n=k:=e1;have hne:s1.n≠s.n:=λz=>c (one e' he' y' (by rw[e0,<-e1,z]));show (AD (FD s.n row S) k).getD _=(AD S k).getD _;rw[<-e1,kH nn hs1,kH nn' (s:=s1) (bA.mpr ⟨s1,hs1,fA hne⟩)]
theorem Tn.fork {S:List Sh} {es:List Ho} {kvs ks:List (List Key×V)} {τ:Int->Int} {u k:Int} {e:Ho} {d:Addr} (h:Tn S es kvs τ u) (nn:(es.map kn).Nodup) (he:e∈es) (hk:k∉es.map kn) (vk:∀y,gC ks (k2 k y)=gC kvs (k2 (kn e) y)) (ve:∀q,(∀y,q≠k2 k y)->gC ks q=gC kvs q) (nk:(ks.map (·.1)).Nodup):Tn (sD e.m S) (es++[⟨false,k,d,e.m⟩]) ks τ u:=by
 refine⟨nk,λq v=>?_,λs hs s' hs'=>?_,λs hs=>?_⟩
 ·by_cases c:∃y,q=k2 k y
  ·obtain⟨y,rfl⟩:=c;rw[vk,h.mem];constructor
   ·rintro⟨e',he',y',hy',q1,q2⟩;obtain⟨z1,z2⟩:=EE q1;obtain rfl:=cE nn he he' z1;exact⟨_,eA _ (aA.mpr rfl),y',hy',by rw[z2];rfl,q2⟩
   ·rintro⟨e',he',y',hy',q1,q2⟩;obtain⟨z1,z2⟩:=EE q1;rcases dA.mp he' with h1|h1
    ·exact absurd (bA.mpr ⟨e',h1,z1.symm⟩) hk
    ·obtain rfl:=aA.mp h1;exact⟨e,he,y',hy',by rw[z2],q2⟩
  ·rw[ve q λy z=>c ⟨y,z⟩,h.mem];constructor
   ·rintro⟨e',he',y',hy',q1,q2⟩;exact⟨e',pA _ he',y',hy',q1,q2⟩
   ·rintro⟨e',he',y',hy',q1,q2⟩;rcases dA.mp he' with h1|h1
    ·exact⟨e',h1,y',hy',q1,q2⟩
    ·obtain rfl:=aA.mp h1;exact absurd ⟨y'.1,q1⟩ c
 ·obtain⟨v,hv,rfl⟩:=bA.mp hs;obtain⟨v',hv',rfl⟩:=bA.mp hs';exact h.inj v hv v' hv'
 ·obtain⟨v,hv,rfl⟩:=bA.mp hs;exact h.lt v hv
theorem x9 {τ:Int->Int} {c:Nat}:∀{es:List Ho},(∀e∈es,e.m.length<=c)->(ZH τ es).length<=es.length * c
 |[],_=>aC _
 |e::es,h=>by
  have ih:=x9 (τ:=τ) (es:=es) λe' he'=>h e' (xA _ he');have h1:=h e (qA ..);rw[pU,oA,cA,ZA,Nat.add_mul,Nat.one_mul];omega
set_option genInjectivity false in
structure Rw where
 q:List Key
 a:Addr
 xs:List Int
def iE (rs:List Rw):List (List Key×V):=rs.map λx=>(x.q,V.ref x.a)
def ZI (rs:List Rw) (q:List Key):List Int:=((rs.find? λx=>decide (x.q=q)).map Rw.xs).getD []
theorem tU {rs:List Rw}:(iE rs).map (·.1)=rs.map Rw.q:=by unfold iE;rw[lA];rfl
theorem jM {rs:List Rw} (nk:(rs.map Rw.q).Nodup) {x:Rw} (hx:x∈rs):gC (iE rs) x.q=some (.ref x.a):=(nH (by rw[tU];exact nk)).mpr (bA.mpr ⟨x,hx,rfl⟩)
theorem uU {rs:List Rw} (nk:(rs.map Rw.q).Nodup) {x:Rw} (hx:x∈rs):ZI rs x.q=x.xs:=by
 unfold ZI;cases e:rs.find? λy=>decide (y.q=x.q) with
 |none=>exact absurd (nA (rfl:x.q=x.q)) (kB.mp e _ hx)
 |some y=>
  have h1:=sB e;have h1:y.q=x.q:=UA h1;rw[cE nk (WA e) hx h1];rfl
theorem y9 {rs:List Rw} {q:List Key} (h:∀x∈rs,x.q≠q):gC (iE rs) q=none:=by
 unfold gC iE;rw[List.find?_map];have:rs.find? ((λkv:List Key×V=>decide (kv.1=q)) ∘ λx=>(x.q,V.ref x.a))=none:=kB.mpr λx hx=>by
  show ¬decide (x.q=q)=true;rw[SA];exact h x hx
 rw[this];rfl
structure Lf (rs:List Rw) (kvs:List (List Key×V)) (j:Nat) (kp ks:List (List Key×V)) (G:List Int):Prop where
 k1:∀ρ v,gC kp ρ=some v->∃x∈rs.take j,¬bq x.q/\ρ=x.xs.map Sum.inl/\gC kvs x.q=some v
 k2:∀x∈rs.take j,¬bq x.q->∃v,gC kp (x.xs.map Sum.inl)=some v/\gC ks x.q=some v
 k3:∀q,(∀x∈rs.take j,x.q=q->bq q)->gC ks q=gC kvs q
 nk:(ks.map (·.1)).Nodup
 nd:G.Nodup
 g:∀t,t∈G↔∃x∈rs.take j,¬bq x.q/\gC kvs x.q=some (V.int t)/\gC ks x.q≠some (V.int t)
def gD (G:List Int):Kvs:=G.map λt=>((Sum.inl t:Key),V.bl true)
def XF (G:List Int) (t:Int):List Int:=if t∈G then G else G++[t]
theorem kM {G:List Int} {t:Int}:JC (gD G) (Sum.inl t) (.bl true)=gD (XF G t):=by
 unfold JC XF;have e:((gD G).any λkv=>decide (kv.1=Sum.inl t))=decide (t∈G):=by
  unfold gD;rw[List.any_map,eB,List.any_eq_true,SA];constructor
  ·rintro⟨x,hx,h⟩;have h:(Sum.inl x:Key)=Sum.inl t:=UA h;rw[<-YA h];exact hx
  ·exact λh=>⟨t,h,nA rfl⟩
 rw[e];by_cases c:t∈G
 ·rw[iA (nA c),iA c];unfold gD;rw[lA];refine DA λx ο=>?_;show (if (Sum.inl x:Key)=Sum.inl t then ((Sum.inl x:Key),V.bl true) else _)=_
  split<;>rfl
 ·rw[fA (λz=>c (UA z)),fA c];unfold gD;rw[gA];rfl
set_option tactic.hygienic true in
theorem bi {G:List Int} {t:Int} (h:G.Nodup):(XF G t).Nodup:=by
 unfold XF
 split
 ·exact h
 ·rename_i c;exact zA.mpr ⟨h,by simp,λa ha b hb z=>c (by rw[<-aA.mp hb,<-z];exact ha)⟩
set_option tactic.hygienic true in
theorem di {G:List Int} {t t':Int}:t'∈XF G t↔t'∈G\/t'=t:=by
 unfold XF
 split
 ·rename_i c;exact⟨.inl,λz=>z.elim id λz=>by rw[z];exact c⟩
 ·rw[dA,aA]
theorem Lf.bank {rs:List Rw} {kvs:List (List Key×V)} {j:Nat} {kp ks:List (List Key×V)} {G:List Int} {x:Rw} (h:Lf rs kvs j kp ks G) (hx:rs[j]?=some x) (b:bq x.q):Lf rs kvs (j+1) kp ks G:=by
 have tk:rs.take (j+1)=rs.take j++[x]:=by rw[NA,hx];rfl
 refine⟨λρ v e=>?_,λy hy nb=>?_,λq hq=>?_,h.nk,h.nd,λt=>?_⟩
 ·obtain⟨y,hy,q⟩:=h.k1 ρ v e;exact⟨y,by rw[tk];exact pA _ hy,q⟩
 ·rw[tk] at hy;rcases dA.mp hy with q|q
  ·exact h.k2 y q nb
  ·rw[aA.mp q] at nb;exact absurd b nb
 ·exact h.k3 q λy hy=>hq y (by rw[tk];exact pA _ hy)
 ·rw[h.g,tk];constructor
  ·rintro⟨y,hy,q⟩;exact⟨y,pA _ hy,q⟩
  ·rintro⟨y,hy,nb,q⟩;rcases dA.mp hy with z|z
   ·exact⟨y,z,nb,q⟩
   ·rw[aA.mp z] at nb;exact absurd b nb
theorem Lf.step {rs:List Rw} {kvs:List (List Key×V)} {j:Nat} {kp kp' ks ks':List (List Key×V)} {G G':List Int} {x:Rw} {t:Int} {v:V} (h:Lf rs kvs j kp ks G) (nk:(rs.map Rw.q).Nodup) (hx:rs[j]?=some x) (nb:¬bq x.q) (ht:gC kvs x.q=some (V.int t))
  (hp:∀ρ,gC kp' ρ=if ρ=x.xs.map Sum.inl then some v else gC kp ρ) (hv:gC kp (x.xs.map Sum.inl)=some v\/(gC kp (x.xs.map Sum.inl)=none/\v=V.int t)) (hk:∀q,gC ks' q=if q=x.q then some v else gC ks q) (hn:(ks'.map (·.1)).Nodup) (hd:G'.Nodup) (hG:∀t',t'∈G'↔t'∈G\/(t'=t/\v≠V.int t)):Lf rs kvs (j+1) kp' ks' G':=by
 have tk:rs.take (j+1)=rs.take j++[x]:=by rw[NA,hx];rfl
 have nx:∀y∈rs.take j,y.q≠x.q:=λy hy e=>by
  have h1:((rs.take (j+1)).map Rw.q).Nodup:=nk.sublist ((jB _ _).map _);rw[tk,gA,zA] at h1;exact h1.2.2 _ (bA.mpr ⟨y,hy,rfl⟩) _ (aA.mpr rfl) e
 refine⟨λρ w e=>?_,λy hy b=>?_,λq hq=>?_,hn,hd,λt'=>?_⟩
 ·rw[hp] at e;by_cases c:ρ=x.xs.map Sum.inl
  ·rw[iA c] at e;cases e;rcases hv with hv|⟨_,rfl⟩
   ·obtain⟨y,hy,q1,q2,q3⟩:=h.k1 _ _ hv;exact⟨y,by rw[tk];exact pA _ hy,q1,c.trans q2,q3⟩
   ·exact⟨x,by rw[tk];exact eA _ (aA.mpr rfl),nb,c,ht⟩
  ·rw[fA c] at e;obtain⟨y,hy,q⟩:=h.k1 _ _ e;exact⟨y,by rw[tk];exact pA _ hy,q⟩
 ·rw[tk] at hy;rcases dA.mp hy with z|z
  ·obtain⟨w,w1,w2⟩:=h.k2 y z b;refine⟨w,?_,by rw[hk,fA (nx y z)];exact w2⟩;rw[hp];by_cases c:(y.xs.map Sum.inl:List Key)=x.xs.map Sum.inl
   ·rw[iA c];rw[c] at w1;rcases hv with hv|⟨hv,_⟩
    ·rw[<-w1,hv]
    ·rw[hv] at w1;cases w1
   ·rw[fA c];exact w1
  ·rw[aA.mp z];exact⟨v,by rw[hp,iA rfl],by rw[hk,iA rfl]⟩
 ·rw[hk,fA λz=>nb (by rw[<-z];exact hq x (by rw[tk];exact eA _ (aA.mpr rfl)) z.symm)];exact h.k3 q λy hy=>hq y (by rw[tk];exact pA _ hy)
 ·rw[hG,h.g,tk];constructor
  ·rintro (⟨y,hy,q1,q2,q3⟩|⟨rfl,hne⟩)
   ·exact⟨y,pA _ hy,q1,q2,by rw[hk,fA (nx y hy)];exact q3⟩
   ·exact⟨x,eA _ (aA.mpr rfl),nb,ht,by rw[hk,iA rfl];exact λz=>hne (rA z)⟩
  ·rintro⟨y,hy,q1,q2,q3⟩;rcases dA.mp hy with z|z
   ·rw[hk,fA (nx y z)] at q3;exact .inl ⟨y,z,q1,q2,q3⟩
   ·rw[aA.mp z] at q2 q3;rw[hk,iA rfl] at q3;rw[ht] at q2;have e:t=t':=V.int.inj (rA q2);exact .inr ⟨e.symm,λz=>q3 (by rw[z,e])⟩
theorem Lf.fin {rs:List Rw} {kvs kp ks:List (List Key×V)} {G:List Int} (h:Lf rs kvs rs.length kp ks G) (nk:(rs.map Rw.q).Nodup) (dom:∀q,(∃v,gC kvs q=some v)↔∃x∈rs,x.q=q) (rn:∀x∈rs,∀y∈rs,¬bq x.q->¬bq y.q->gC kvs x.q=gC kvs y.q->x.xs=y.xs):Fl (ZI rs) kvs ks/\∀t,t∈G↔∃q,¬bq q/\gC kvs q=some (V.int t)/\gC ks q≠some (V.int t):=by
 have tk:rs.take rs.length=rs:=VA;have at1:∀{q v},¬bq q->gC ks q=some v->∃x∈rs,x.q=q/\ZI rs q=x.xs/\gC kp (x.xs.map Sum.inl)=some v:=λ{q v} b e=>by
  have h0:∃x∈rs,x.q=q:=by
   by_cases c:∃x∈rs,x.q=q
   ·exact c
   ·exact (dom q).mp ⟨v,(h.k3 q (by rw[tk];exact λx hx z=>absurd ⟨x,hx,z⟩ c)).symm.trans e⟩
  obtain⟨x,hx,rfl⟩:=h0;obtain⟨w,w1,w2⟩:=h.k2 x (by rw[tk];exact hx) b;rw[e] at w2;cases w2;exact⟨x,hx,rfl,uU nk hx,w1⟩
 have k1:=h.k1;rw[tk] at k1;refine⟨⟨h.nk,λq=>?_,λq1 q2 v1 v2 b1 b2 e1 e2=>?_,λq b=>h.k3 q λο ο ο=>b,λq v b e=>?_⟩,λt=>?_⟩
 ·by_cases c:(∃x∈rs,x.q=q)/\¬bq q
  ·obtain⟨⟨x,hx,rfl⟩,b⟩:=c;obtain⟨w,_,w2⟩:=h.k2 x (by rw[tk];exact hx) b;exact⟨λο=>(dom x.q).mpr ⟨x,hx,rfl⟩,λο=>⟨w,w2⟩⟩
  ·rw[h.k3 q (by rw[tk];exact λx hx z=>Classical.byContradiction λb=>c ⟨⟨x,hx,z⟩,b⟩)]
 ·obtain⟨x1,h1,_,r1,p1⟩:=at1 b1 e1;obtain⟨x2,h2,_,r2,p2⟩:=at1 b2 e2;rw[r1,r2];constructor
  ·rintro rfl;obtain⟨x3,h3,b3,c3,d3⟩:=k1 _ _ p1;obtain⟨x4,h4,b4,c4,d4⟩:=k1 _ _ p2;rw[BQ c3,BQ c4];exact rn x3 h3 x4 h4 b3 b4 (d3.trans d4.symm)
  ·intro z;rw[z,p2] at p1;exact (rA p1).symm
 ·obtain⟨x1,h1,_,r1,p1⟩:=at1 b e;obtain⟨x3,h3,b3,c3,d3⟩:=k1 _ _ p1;exact⟨x3.q,b3,by rw[uU nk h3,r1,BQ c3],d3⟩
 ·rw[h.g,tk];constructor
  ·rintro⟨x,_,q1,q2⟩;exact⟨x.q,q1,q2⟩
  ·rintro⟨q,q1,q2,q3⟩;obtain⟨x,hx,rfl⟩:=(dom q).mp ⟨_,q2⟩;exact⟨x,hx,q1,q2,q3⟩
def CD (n x:Int):Int×Int:=if 10<=x then (2,x - 10) else (n,x)
inductive M9 (vs:List V) (H:Hp) (Q:VK) (E:XK):Prop where
 |mk (n x:Int) (_:vs=[.int n,.int x]) (_:∀a H',uC H H'->H a=none->H' a=some (.tup [.int (CD n x).1,.int (CD n x).2])->Q (.ref a) H'):M9 vs H Q E
def sp_key:Sp:=M9
theorem vU (T:fD K mg A):TD P w K mg base "_law_key" 1 ["_law_task","_law_page"] [] sp_key:=by
 refine T.Lg.have kg (λvs H Q E z=>?_) ?_
 ·obtain⟨n,x,rfl,_⟩:=z;rfl
 ·intro f cdv A' outer s H vs Q E hr z;obtain⟨n,x,rfl,q⟩:=z;refine⟨_,(CC (hE (pE lJ (eC 1) yC (wC _)) (FC (uD (NG (iC yC (iC (BD tH (eC 1) yC) rC))))) kE)
   (FC (uD (NG (iC (eC 0) (iC (eC 1) rC)))))),?_⟩
  rfl';refine UK (λh p hp=>q p _ (bE LD hp) hp ?_) (λh p hp=>q p _ (bE LD hp) hp ?_)
  ·rw[show CD n x=(2,x - 10) from iA h];exact IC
  ·rw[show CD n x=(n,x) from fA h];exact IC
inductive N9 (vs:List V) (H:Hp) (Q:VK) (E:XK):Prop where
 |mk (rd td:Addr) (rs:List Rw) (kvs:List (List Key×V)) (_:vs=[.ref rd,.ref td]) (_:rd≠td) (_:H rd=some (.dT (iE rs))) (_:(∀x∈rs,H x.a=some (.lst (x.xs.map V.int)))) (_:(rs.map Rw.q).Nodup) (_:rs.length<=9000) (_:H td=some (.dT kvs)) (_:(kvs.map (·.1)).Nodup) (_:kvs.length<=9000) (_:(∀x∈rs,∃c y:Int,x.q=k2 c y/\c<=2)) (_:(∀q,(∃v,gC kvs q=some v)↔∃x∈rs,x.q=q)) (_:(∀q v,gC kvs q=some v->∃t:Int,v=V.int t)) (_:(∀x∈rs,∀y∈rs,¬bq x.q->¬bq y.q->gC kvs x.q=gC kvs y.q->x.xs=y.xs)) (_:∀ks (G:List Int) H',H' td=some (.dT ks)->Kd td H H'->Fl (ZI rs) kvs ks->G.Nodup->(∀t,t∈G↔∃q,¬bq q/\gC kvs q=some (V.int t)/\gC ks q≠some (V.int t))->Q (.int (G.length:Int)) H'):N9 vs H Q E
def sp_lfd:Sp:=N9
theorem qK (T:fD K mg A):TD P w K mg base "_law_folded" 2 ["_law_rows","_law_sheets"] [] sp_lfd:=by
 refine T.Ji.have mO (λvs H Q E z=>?_) ?_
 ·obtain⟨rd,td,rs,kvs,rfl,_⟩:=z;rfl
 ·intro f cdv A' outer s H vs Q E hr z;obtain⟨rd,td,rs,kvs,rfl,rt,hrd,hrx,rk,rl,htd,tk,tl,hsh,dom,hint,rn,q⟩:=z;refine⟨_,(CC (iD (i:=2) mO.nd rfl (Or.inl rfl) RP)
   (CC (iD (i:=3) mO.nd rfl (Or.inl rfl) JI)
   (CC (HR (GH aB rfl (JR (eC 0)) (wF (i:=4) mO.nd rfl (Or.inl rfl)) (FC (hE (pE vN (GD fE (eC 4) yC (λο ο=>rfl)) yC (wC _)) (LI (iD (i:=5) mO.nd rfl (Or.inl rfl) (KR (dD hr) (eC 2) (iI Y3 rfl T.Je PyProof.Rows.boot_tuple (iC (VD (dD hr) (eC 0) (eC 4) (λο ο=>rfl)) rC)) (VD (dD hr) (eC 1) (eC 4) (λο ο=>rfl)) ⟨rfl,rfl,rfl,rfl⟩))
   (FC (hE (pE SQ (eC 5) (VD (dD hr) (eC 1) (eC 4) (λο ο=>rfl)) (wC _)) (CC (QF (dD hr) (eC 3) (VD (dD hr) (eC 1) (eC 4) (λο ο=>rfl)) zM rfl)
   (FC (QF (dD hr) (eC 1) (eC 4) (eC 5) rfl))) kE))) kE))))
   (FC (uD (rF PN rfl T.A7 PySem.boot_len (iC (eC 3) rC))))))),?_⟩
  unfold tDNewT;rfl';intro kp hkp gn hgn;obtain⟨s1,g1⟩:=ZE (o:=.dT []) hkp;obtain⟨s2,g2⟩:=ZE (o:=.dK []) hgn;have hz:=PySem.sizeLine_eq;have nkr:kp≠rd:=λz=>by rw[z,hrd] at hkp;cases hkp
  have nkt:kp≠td:=λz=>by rw[z,htd] at hkp;cases hkp
  have ngr:gn≠rd:=λz=>by rw[z,s1 _ _ hrd] at hgn;cases hgn
  have ngt:gn≠td:=λz=>by rw[z,s1 _ _ htd] at hgn;cases hgn
  have ngk:gn≠kp:=λz=>by rw[z,g1] at hgn;cases hgn
  have s12:=s1.trans s2;have g1':=s2 _ _ g1;have new:∀c o,H c=some o->c≠kp/\c≠gn:=λc o h=>⟨(λz=>by rw[z,hkp] at h;cases h),(λz=>by rw[z] at h;rw[s1 _ _ h] at hgn;cases hgn)⟩
  generalize jC (jC H kp (.dT [])) gn (.dK [])=H2 at *;refine⟨rd,?_,?_⟩
  ·intro o u;rw[zQ,hrd];exact λz=>nomatch z
  unfold oF TF pD UF ND;rfl';refine⟨iE rs,s12 _ _ hrd,λo=>?_⟩;refine Ze (λi σ G=>∃v4 v5 kpv ks Gs,σ=[some (.ref rd),some (.ref td),some (.ref kp),some (.ref gn),v4,v5]/\G rd=some (.frz o (.dT (iE rs)))/\G kp=some (.dT kpv)/\kpv.length<=i/\G gn=some (.dK (gD Gs))/\Gs.length<=i/\G td=some (.dT ks)/\ks.length<=kvs.length+i/\Lf rs kvs i kpv ks Gs/\∀c o,H c=some o->c≠rd->c≠td->G c=some o) ⟨_,_,[],kvs,[],rfl,IC,by rw[vC nkr];exact g1',kA _,by rw[vC ngr];exact g2,kA _,by rw[vC (Ne.symm rt)];exact s12 _ _ htd,kA _,⟨(λρ v h=>by cases h),(λx hx=>by simp at hx),(λο ο=>rfl),tk,.nil,λt=>⟨(λh=>by cases h),(by rintro⟨x,hx,_⟩;simp at hx)⟩⟩,λc o h n1 ο=>by rw[vC n1];exact s12 _ _ h⟩ (λi σ G _ zz=>by obtain⟨_,_,_,_,_,zz⟩:=zz;exact zz.2.1) (λi k v b σ G hi hb=>?_) (λσ G=>?_)
  ·rintro⟨v4,v5,kpv,ks,Gs,rfl,hGr,hGk,hkl,hGg,hgl,hGt,hsl,hL,hfr⟩;unfold iE at hi;rw[QA] at hi;obtain⟨x,hx,e0⟩:=XA.mp hi;obtain⟨rfl,rfl⟩:=Prod.mk.inj e0;have hxm:=JA hx;have hil:=(IA.mp hx).1;obtain⟨c,y,hq,hc⟩:=hsh x hxm;rw[hq] at hb;have hb:G b=some (.tup [V.int c,V.int y]):=hb;obtain⟨v,hv⟩:=(dom x.q).mpr ⟨x,hxm,rfl⟩;obtain⟨t,rfl⟩:=hint _ _ hv;rfl';refine⟨_,ZC.of hb,_,FI (j:=0) rfl,c,rfl,?_⟩;by_cases c2:c < 2
   ·rw[iA c2];have nb:¬bq x.q:=λ⟨y',z⟩=>by rw[hq] at z;have:=(EE z).1;omega
    have hxa:=hfr _ _ (hrx x hxm) (LC (hrx x hxm) hrd (λz=>nomatch z)) (LC (hrx x hxm) htd (λz=>nomatch z));have hkt:gC ks x.q=some (V.int t):=(hL.k3 x.q λy' hy' z=>absurd z (λz=>by
     have h1:((rs.take (i+1)).map Rw.q).Nodup:=rk.sublist ((jB _ _).map _);rw[NA,hx,gA,zA] at h1;exact h1.2.2 _ (bA.mpr ⟨y',hy',rfl⟩) _ (aA.mpr rfl) z)).trans hv
    have hbq:G b=some (.tup (x.q.map kV)):=by rw[hq];exact hb
    refine⟨λσ G2=>∃(tv:Int) (kp2:List (List Key×V)),σ=[some (.ref rd),some (.ref td),some (.ref kp),some (.ref gn),some (.ref b),some (.int tv)]/\Kd kp G G2/\G2 kp=some (.dT kp2)/\kp2.length<=i+1/\(∀ρ,gC kp2 ρ=if ρ=x.xs.map Sum.inl then some (V.int tv) else gC kpv ρ)/\(gC kpv (x.xs.map Sum.inl)=some (V.int tv)\/(gC kpv (x.xs.map Sum.inl)=none/\V.int tv=V.int t)),?_,λσ2 G2=>?_⟩
    ·rfl';refine⟨.inr ⟨_,.inl hGk⟩,_,.inr ⟨iE rs,x.q,b,.inr ⟨o,hGr⟩,rfl,hbq,(jM rk hxm).symm⟩,x.a,rfl,_,.inl ⟨QC.of hxa,λl1 hl1=>?_⟩⟩;obtain⟨s3,g3⟩:=ZE (o:=.tup (x.xs.map V.int)) hl1;refine⟨_,.inr ⟨ks,x.q,b,.inl (s3 _ _ hGt),rfl,s3 _ _ hbq,hkt.symm⟩,kpv,s3 _ _ hGk,x.xs.map Sum.inl,by rw[lA];rfl,⋯,λv hv'=>?_,λhv'=>?_⟩
     ·obtain⟨x',_,_,_,e9⟩:=hL.k1 _ _ hv';obtain⟨tv,rfl⟩:=hint _ _ e9;refine⟨tv,rfl,Kd.of s3,kpv,s3 _ _ hGk,⋯,λρ=>?_,.inl hv'⟩;by_cases c:ρ=x.xs.map Sum.inl
      ·rw[iA c,c,hv']
      ·rw[fA c]
     ·have:=CQ (kvs:=kpv) (k:=x.xs.map Sum.inl) (v:=V.int t);exact⟨t,rfl,(Kd.of s3).trans sE,_,rfl,⋯,λρ=>PK _ _ _ _,.inr ⟨hv',rfl⟩⟩
    rintro⟨tv,kp2,rfl,k2,hGk2,hkl2,hkv,hvv⟩;have kd2:∀{c:Addr} {o':HO},G c=some o'->(∀kv,o'≠.dT kv)->G2 c=some o':=λh n=>k2 _ _ h (λz=>by rw[z,hGk] at h;exact n _ (rA h).symm);have hbq2:=kd2 hbq (λο z=>nomatch z);have hGt2:=k2 _ _ hGt nkt.symm;have hfr2:∀c o,H c=some o->c≠rd->c≠td->G2 c=some o:=λc o h n1 n2=>k2 _ _ (hfr c o h n1 n2) (new c o h).1;have hGr2:=kd2 hGr (λο z=>nomatch z);have hGg2:=kd2 hGg (λο z=>nomatch z);rfl';refine⟨_,.inr ⟨ks,x.q,b,.inl hGt2,rfl,hbq2,hkt.symm⟩,rfl,?_⟩;by_cases c:tv=t
    ·rw[c,nA rfl];refine wD ⟨hGr2,kp2,hGk2,hkl2,ks,Gs,hGg2,⋯,hGt2,⋯,hL.step rk hx nb hv hkv hvv (λq=>?_) hL.nk hL.nd (λt'=>⟨.inl,λz=>z.elim id λz=>absurd (by rw[c]) z.2⟩),hfr2⟩;by_cases d:q=x.q
     ·rw[iA d,d,c];exact hkt
     ·rw[fA d]
    ·rw[HA (λz=>c (V.int.inj z))];have hgl9:(gD Gs).length=Gs.length:=cA ..;refine xD ⟨_,.inr ⟨ks,x.q,b,.inl hGt2,rfl,hbq2,hkt.symm⟩,_,.inl ⟨gD Gs,Sum.inl t,hGg2,rfl,⋯,rfl⟩,_,.inr ⟨ks,x.q,b,by rw[vC ngt.symm];exact hGt2,rfl,by rw[vC (LC hbq2 hGg2 (λz=>nomatch z))];exact hbq2,⋯,rfl⟩,?_⟩;rw[kM];have lp:=CQ (kvs:=ks) (k:=x.q) (v:=V.int tv);have la:(XF Gs t).length<=Gs.length+1:=by unfold XF;split<;>simp
     refine⟨by rw[vC rt,vC ngr.symm];exact hGr2,kp2,by rw[vC nkt,vC ngk.symm];exact hGk2,hkl2,JC ks x.q (V.int tv),XF Gs t,by rw[vC ngt,IC],⋯,IC,⋯,hL.step rk hx nb hv hkv hvv (λq=>PK _ _ _ _) (oU.2 hL.nk) (bi hL.nd) (λt'=>?_),λc o h n1 n2=>by rw[vC n2,vC (new c o h).2];exact hfr2 c o h n1 n2⟩;rw[di];exact⟨λz=>z.imp id λz=>⟨z,λw=>c (V.int.inj w)⟩,λz=>z.imp id λz=>z.1⟩
   ·rw[fA c2];have b2:bq x.q:=⟨y,by rw[hq,show c=2 by omega]⟩
    exact⟨hGr,_,hGk,⋯,ks,Gs,hGg,⋯,hGt,⋯,hL.bank hx b2,hfr⟩
  ·rintro⟨v4,v5,kpv,ks,Gs,rfl,hGr,hGk,hkl,hGg,hgl,hGt,hsl,hL,hfr⟩;rfl';rw[GR hGr];have hl9:(iE rs).length=rs.length:=cA ..;rw[hl9] at hL;obtain⟨hFl,hg⟩:=hL.fin rk dom rn;refine⟨gD Gs,by rw[vC ngr];exact hGg,?_⟩;rw[show (gD Gs).length=Gs.length from cA ..];refine q ks Gs _ (by rw[vC (Ne.symm rt)];exact hGt) (λc o h n=>?_) hFl hL.nd hg;by_cases e:c=rd
   ·rw[e,IC,<-hrd,<-e];exact h
   ·rw[vC e];exact hfr c o h e n
def Bo (es:List Ho):Prop:=∀q q' k,bq q->Nb es q k->Nb es q' k->q'=q
theorem Bo.sep {es:List Ho} (h:Bo es):iM es:=λq q' k b b' h1 h2=>b (by rw[h q' q k b' h2 h1];exact b')
theorem O9 {e:Ho} {m:List (Int×Int)} {es:List Ho}:(WC e.k e.n m es).map kn=es.map kn:=by
 unfold WC;rw[lA];refine DA λu ο=>?_;show kn (if u.k=e.k/\u.n=e.n then {u with m:=m} else u)=kn u
 split<;>rfl
theorem oH {es:List Ho} {e:Ho} {m:List (Int×Int)} {y j:Int} (nn:(es.map kn).Nodup) (he:e∈es) (hm:∀w:Int×Int,w∈m↔w=(y,j)\/(w∈e.m/\w.1≠y)) {q:List Key} {k:Int}:Nb (WC e.k e.n m es) q k↔(q=k2 (kn e) y/\k=j)\/(q≠k2 (kn e) y/\Nb es q k):=by
 constructor
 ·rintro⟨e',he',w,hw,q1,rfl⟩;obtain⟨e0,h1,⟨k1,k3,rfl⟩|⟨k1,rfl⟩⟩:=SO he'
  ·obtain rfl:=cE nn h1 he (mH k1 k3);rcases (hm w).mp hw with rfl|⟨hw',hne⟩
   ·exact .inl ⟨q1,rfl⟩
   ·exact .inr ⟨λz=>hne (EE (q1.symm.trans z)).2,e0,h1,w,hw',q1,rfl⟩
  ·refine .inr ⟨λz=>?_,e',h1,w,hw,q1,rfl⟩;obtain rfl:=cE nn h1 he (EE (q1.symm.trans z)).1;exact k1 ⟨rfl,rfl⟩
 ·rintro (⟨rfl,rfl⟩|⟨hq,e',he',w,hw,q1,rfl⟩)
  ·exact⟨_,YI he,(y,k),(hm _).mpr (.inl rfl),rfl,rfl⟩
  ·by_cases d:kn e'=kn e
   ·obtain rfl:=cE nn he' he d;exact⟨_,YI he',w,(hm w).mpr (.inr ⟨hw,λz=>hq (by rw[q1,z])⟩),q1,rfl⟩
   ·exact⟨e',sU he' d,w,hw,q1,rfl⟩
theorem P9 {q:List Key} {p:List Key×V->Bool}:∀{l:List (List Key×V)},(l.map (·.1)).Nodup->(∀kv∈l,p kv=true->kv.1=q)->l.countP p<=1
 |[],_,_=>aC _
 |a::l,nd,h=>by
  rw[yA,OA] at nd;have ih:=P9 (p:=p) nd.2 λkv hk=>h kv (xA _ hk);rw[List.countP_cons];by_cases c:p a=true
  ·have hz:l.countP p=0:=List.countP_eq_zero.mpr λkv hk z=>nd.1 (by
    rw[h a (qA ..) c,<-h kv (xA _ hk) z];exact bA.mpr ⟨kv,hk,rfl⟩)
   rw[hz,iA c];exact kA _
  ·rw[fA c];exact ih
theorem Tn.bank1 {S:List Sh} {es:List Ho} {kvs:List (List Key×V)} {τ:Int->Int} {u:Int} (h:Tn S es kvs τ u) (hp:PC S es) (bo:Bo es) {q:List Key} {k:Int} (b:bq q) (hn:Nb es q k):(kvs.countP λkv=>decide (kv.2=V.int (τ k)))<=1:=P9 (q:=q) h.nk λkv hk hv=>by
 obtain⟨k',n',e'⟩:=h.nb.mp ((nH h.nk).mpr (show (kv.1,kv.2)∈kvs from hk));have hv:kv.2=V.int (τ k):=UA hv;have:k'=k:=h.same hp n' hn (V.int.inj (e'.symm.trans hv));exact bo q kv.1 k b hn (by rw[<-this];exact n')
structure Nx (g:Int) (S:List Sh) (es:List Ho) (kq y:Int) (u:Int) (S':List Sh) (es':List Ho) (kvs':List (List Key×V)) (τ':Int->Int) (row:List Int):Prop where
 pc:PC S' es'
 tn:Tn S' es' kvs' τ' (u+1)
 bo:Bo es'
 kk:es'.map kn=es.map kn
 ek:∀e'∈es',∃e∈es,e'.k=e.k/\e'.n=e.n/\e'.m.length<=e.m.length+1
 rw:∀e0∈es,∃e'∈es',kn e'=kn e0/\∀y',BC g S' e' y'=if kn e0=kq/\y'=y then row else BC g S e0 y'
 nb:∀q,(∃k,Nb es' q k)↔q=k2 kq y\/∃k,Nb es q k
 sl:S'.length<=S.length+1
theorem Nx.newp {g:Int} {S:List Sh} {es:List Ho} {kvs:List (List Key×V)} {τ:Int->Int} {u:Int} {e:Ho} {y made:Int} {a':Addr} {zs:List Int} (hT:Tn S es kvs τ u) (hP:PC S es) (bo:Bo es) (nd:(es.map Ho.d).Nodup) (nn:(es.map kn).Nodup) (ux:∀e∈es,(e.m.map (·.1)).Nodup) (hb:∀s∈S,s.n < made) (he:e∈es) (hy:mC e y=none) (hu:0<=u) (nn':((S++[(⟨made,a',zs,1⟩:Sh)]).map Sh.n).Nodup) (um:((e.m++[(y,made)]).map (·.1)).Nodup):
  Nx g S es (kn e) y u (S++[⟨made,a',zs,1⟩]) (WC e.k e.n (e.m++[(y,made)]) es) (JC kvs (k2 (kn e) y) (.int u)) (fH τ made u) zs:=by
 have un:∀e'∈es,e'.k=e.k->e'.n=e.n->e'=e:=λe' h1 h2 h3=>cE nn h1 he (mH h2 h3);have hm:∀w:Int×Int,w∈e.m++[(y,made)]↔w=(y,made)\/(w∈e.m/\w.1≠y):=λw=>by
  rw[dA,aA];constructor
  ·rintro (h1|h1)
   ·exact .inr ⟨h1,λq=>by
     have:mC e y=some w.2:=(OD (ux e he)).mpr (by rw[<-q];exact h1);rw[hy] at this;cases this⟩
   ·exact .inl h1
  ·rintro (h1|⟨h1,_⟩)
   ·exact .inr h1
   ·exact .inl h1
 have fresh:∀{q k},Nb es q k->k < made:=λ{q k} h=>by
  obtain⟨s,hs,rfl⟩:=hP.nb h;exact hb s hs
 refine⟨hP.more nd un he hb,hT.put nn he hP.liv hb hm (λs hs=>?_) hu,λq q' k b h1 h2=>?_,O9,λe' he'=>?_,u9 nn he ux um hP.liv hm (λs hs=>?_) ?_,λq=>?_,?_⟩
 ·rcases dA.mp hs with q|q
  ·exact .inr ⟨s,q,rfl⟩
  ·exact .inl (by rw[aA.mp q])
 ·rcases (oH nn he hm).mp h1 with ⟨rfl,rfl⟩|⟨_,a1⟩<;>rcases (oH nn he hm).mp h2 with ⟨rfl,e2⟩|⟨_,a2⟩
  ·rfl
  ·have:=fresh a2;omega
  ·have:=fresh a1;omega
  ·exact bo q q' k b a1 a2
 ·obtain⟨e0,h1,⟨k1,k3,rfl⟩|⟨k1,rfl⟩⟩:=SO he'
  ·obtain rfl:=un e0 h1 k1 k3;refine⟨e0,h1,rfl,rfl,?_⟩;show (e0.m++[(y,made)]).length<=_;rw[oA];exact kA _
  ·exact⟨e',h1,rfl,rfl,Nat.le_succ _⟩
 ·rw[kH nn' (pA _ hs),kH (by rw[gA] at nn';exact (zA.mp nn').1) hs]
 ·exact kH nn' (s:=⟨made,a',zs,1⟩) (eA _ (aA.mpr rfl))
 ·constructor
  ·rintro⟨k,hk⟩;rcases (oH nn he hm).mp hk with ⟨a,_⟩|⟨_,a⟩
   ·exact .inl a
   ·exact .inr ⟨k,a⟩
  ·rintro (rfl|⟨k,hk⟩)
   ·exact⟨made,(oH nn he hm).mpr (.inl ⟨rfl,rfl⟩)⟩
   ·by_cases c:q=k2 (kn e) y
    ·exact⟨made,(oH nn he hm).mpr (.inl ⟨c,rfl⟩)⟩
    ·exact⟨k,(oH nn he hm).mpr (.inr ⟨c,hk⟩)⟩
 ·rw[oA];exact kA _
theorem Nx.copyp {g:Int} {S:List Sh} {es:List Ho} {kvs:List (List Key×V)} {τ:Int->Int} {u:Int} {e:Ho} {y made:Int} {a':Addr} {zs:List Int} {s:Sh} (hT:Tn S es kvs τ u) (hP:PC S es) (bo:Bo es) (nd:(es.map Ho.d).Nodup) (nn:(es.map kn).Nodup) (ux:∀e∈es,(e.m.map (·.1)).Nodup) (hb:∀s∈S,s.n < made) (sn:(S.map Sh.n).Nodup) (he:e∈es) (hs:s∈S) (hy:mC e y=some s.n) (h2:1 < s.h) (hu:0<=u) (nn':((FD made zs (YC s.n (S++[(⟨made,a',s.xs,1⟩:Sh)]))).map Sh.n).Nodup) (um:(((e.m.filter λw=>decide (w.1≠y))++[(y,made)]).map (·.1)).Nodup):
  Nx g S es (kn e) y u (FD made zs (YC s.n (S++[⟨made,a',s.xs,1⟩]))) (WC e.k e.n ((e.m.filter λw=>decide (w.1≠y))++[(y,made)]) es) (JC kvs (k2 (kn e) y) (.int u)) (fH τ made u) zs:=by
 have un:∀e'∈es,e'.k=e.k->e'.n=e.n->e'=e:=λe' h1 h2 h3=>cE nn h1 he (mH h2 h3);have hm:∀w:Int×Int,w∈(e.m.filter λw=>decide (w.1≠y))++[(y,made)]↔w=(y,made)\/(w∈e.m/\w.1≠y):=λw=>by
  rw[dA,aA,AA,SA];exact Or.comm
 have fresh:∀{q k},Nb es q k->k < made:=λ{q k} h=>by
  obtain⟨s,hs,rfl⟩:=hP.nb h;exact hb s hs
 have mem:∀u'∈FD made zs (YC s.n (S++[(⟨made,a',s.xs,1⟩:Sh)])),u'.n=made\/∃s0∈S,s0.n=u'.n:=λu' hu'=>by
  obtain⟨v,hv,rfl⟩:=bA.mp hu';obtain⟨w,hw,rfl⟩:=bA.mp hv;have e1:(if (if w.n=s.n then ({w with h:=w.h - 1}:Sh) else w).n=made then ({(if w.n=s.n then ({w with h:=w.h - 1}:Sh) else w) with xs:=zs}:Sh) else (if w.n=s.n then ({w with h:=w.h - 1}:Sh) else w)).n=w.n:=by
   split<;>split<;>rfl
  rw[e1];rcases dA.mp hw with q|q
  ·exact .inr ⟨w,q,rfl⟩
  ·exact .inl (by rw[aA.mp q])
 have vals:∀{w:Sh} {n:Int} {xs:List Int},w∈S++[(⟨made,a',s.xs,1⟩:Sh)]->w.n=n->(if n=made then zs else w.xs)=xs->AD (FD made zs (YC s.n (S++[(⟨made,a',s.xs,1⟩:Sh)]))) n=some xs:=λ{w n xs} hw e1 e2=>by
  have hin:(if (if w.n=s.n then ({w with h:=w.h - 1}:Sh) else w).n=made then ({(if w.n=s.n then ({w with h:=w.h - 1}:Sh) else w) with xs:=zs}:Sh) else (if w.n=s.n then ({w with h:=w.h - 1}:Sh) else w))∈FD made zs (YC s.n (S++[(⟨made,a',s.xs,1⟩:Sh)])):=bA.mpr ⟨_,bA.mpr ⟨w,hw,rfl⟩,rfl⟩;have z:=kH nn' hin;have f1:(if w.n=s.n then ({w with h:=w.h - 1}:Sh) else w).n=w.n:=by split<;>rfl
  have f2:(if w.n=s.n then ({w with h:=w.h - 1}:Sh) else w).xs=w.xs:=by split<;>rfl
  by_cases c:n=made
  ·rw[iA c] at e2;rw[iA (by rw[f1,e1,c])] at z;rw[<-e2,<-e1,<-f1];exact z
  ·rw[fA c] at e2;rw[fA (by rw[f1,e1];exact c)] at z;rw[<-e2,<-e1,<-f2];rw[f1] at z;exact z
 refine⟨(hP.copy nd un he hb (ux e he) hs sn ((OD (ux e he)).mp hy) h2).box,hT.put nn he hP.liv hb hm mem hu,λq q' k b h1 h2=>?_,O9,λe' he'=>?_,u9 nn he ux um hP.liv hm (λs' hs'=>?_) ?_,λq=>?_,?_⟩
 ·rcases (oH nn he hm).mp h1 with ⟨rfl,rfl⟩|⟨_,a1⟩<;>rcases (oH nn he hm).mp h2 with ⟨rfl,e2⟩|⟨_,a2⟩
  ·rfl
  ·have:=fresh a2;omega
  ·have:=fresh a1;omega
  ·exact bo q q' k b a1 a2
 ·obtain⟨e0,h1,⟨k1,k3,rfl⟩|⟨k1,rfl⟩⟩:=SO he'
  ·obtain rfl:=un e0 h1 k1 k3;refine⟨e0,h1,rfl,rfl,?_⟩;show (_++[(y,made)]).length<=_;rw[oA];exact Nat.add_le_add_right (bB ..) 1
  ·exact⟨e',h1,rfl,rfl,Nat.le_succ _⟩
 ·have:=hb s' hs';rw[kH sn hs'];exact vals (pA _ hs') rfl (fA ⋯)
 ·exact vals (w:=⟨made,a',s.xs,1⟩) (eA _ (aA.mpr rfl)) rfl (iA rfl)
 ·constructor
  ·rintro⟨k,hk⟩;rcases (oH nn he hm).mp hk with ⟨a,_⟩|⟨_,a⟩
   ·exact .inl a
   ·exact .inr ⟨k,a⟩
  ·rintro (rfl|⟨k,hk⟩)
   ·exact⟨made,(oH nn he hm).mpr (.inl ⟨rfl,rfl⟩)⟩
   ·by_cases c:q=k2 (kn e) y
    ·exact⟨made,(oH nn he hm).mpr (.inl ⟨c,rfl⟩)⟩
    ·exact⟨k,(oH nn he hm).mpr (.inr ⟨c,hk⟩)⟩
 ·unfold FD YC;rw[cA,cA,oA];exact kA _
theorem Nx.same {g:Int} {S S':List Sh} {es:List Ho} {kvs:List (List Key×V)} {τ:Int->Int} {u:Int} {e:Ho} {y k:Int} {row:List Int} (hT:Tn S es kvs τ u) (hP:PC S' es) (bo:Bo es) (he:e∈es) (ux:(e.m.map (·.1)).Nodup) (hy:mC e y=some k) (hS:∀s∈S',∃s0∈S,s0.n=s.n) (hl:S'.length=S.length) (hr:∀e'∈es,∀y',BC g S' e' y'=if kn e'=kn e/\y'=y then row else BC g S e' y'):Nx g S es (kn e) y u S' es kvs τ row:=
 ⟨hP,hT.on hS,bo,rfl,λe' he'=>⟨e',he',rfl,rfl,Nat.le_succ _⟩,λe0 h0=>⟨e0,h0,rfl,hr e0 h0⟩,λq=>⟨.inr,λz=>z.elim (λz=>⟨k,e,he,_,(OD ux).mp hy,z,rfl⟩) id⟩,⋯⟩
def lM:List Rn:=[⟨0,10,3,none⟩,⟨10,3,3,some (0,0)⟩]
structure Bk (A:RC) (G0 B H:Hp) (r:Ro) (z:Hz) (l f g:Int) (tks:List Tk) (made:Int) (S:List Sh) (es:List Ho) (rs:List Rw) (rd td:Addr) (kvs:List (List Key×V)) (τ:Int->Int) (u:Int):Prop where
 rh:RH A B H r z l f g tks [(Sum.inl 0,.int 3)] made S es
 pc:PC S es
 tn:Tn S es kvs τ u
 bo:Bo es
 pr:∀c y k,Nb es (k2 c y) k->c≠2->y < 10
 ek:∀e∈es,(e.k=true/\e.n=0)\/(e.k=false/\(e.n=0\/e.n=1))
 nn:(es.map kn).Nodup
 el:es.length<=tks.length+1
 ts:∀t∈tks,t.rs=lM
 tk:tks.map Tk.n=[0]\/tks.map Tk.n=[0,1]
 hd:H rd=some (.dT (iE rs))
 rx:∀x∈rs,H x.a=some (.lst (x.xs.map V.int))
 rk:(rs.map Rw.q).Nodup
 ra:(rs.map Rw.a).Nodup
 rl:∀x∈rs,∃e∈es,∃y,x.q=k2 (kn e) y/\x.xs=BC g S e y
 rc:∀q k,Nb es q k->∃x∈rs,x.q=q
 sh:H td=some (.dT kvs)
 sl:(S.length:Int)<=u
 ml:∀e∈es,(e.m.length:Int)<=u
 ow:B rd≠none/\B td≠none/\∀x∈rs,B x.a≠none
 ne:rd≠td
 k0:∀c o,G0 c=some o->H c=some o/\B c≠none/\c≠rd/\c≠td/\∀x∈rs,c≠x.a
section
variable {G0 B H H':Hp} {r:Ro} {z:Hz} {l f g:Int} {tks:List Tk} {made made':Int} {S S':List Sh} {es es':List Ho} {rs:List Rw} {rd td:Addr} {kvs kvs':List (List Key×V)} {τ τ':Int->Int} {u:Int}
theorem Bk.same (h:Bk A G0 B H r z l f g tks made S es rs rd td kvs τ u) (s:uC H H'):Bk A G0 B H' r z l f g tks made S es rs rd td kvs τ u:=
 {h with rh:=h.rh.same s,hd:=s _ _ h.hd,rx:=λx hx=>s _ _ (h.rx x hx),sh:=s _ _ h.sh,k0:=λc o hc=>let ⟨c1,c2⟩:=h.k0 c o hc;⟨s _ _ c1,c2⟩}
theorem Bk.kl (h:Bk A G0 B H r z l f g tks made S es rs rd td kvs τ u) (hu:u<=100):kvs.length<=300:=by
 rw[(h.tn.perm h.nn h.rh.ux).length_eq];have h1:=x9 (τ:=τ) (c:=100) (es:=es) λe he=>by have:=h.ml e he;omega
 have h2:=h.el;have h3:tks.length<=2:=by
  rcases h.tk with h|h<;>have:=congrArg List.length h<;>rw[cA] at this<;>simp at this<;>omega
 have h4:es.length * 100<=3 * 100:=Nat.mul_le_mul_right _ ⋯;omega
theorem Bk.rn (h:Bk A G0 B H r z l f g tks made S es rs rd td kvs τ u) (hN:∀x∈rs,∃k,Nb es x.q k):rs.length=kvs.length:=by
 have:(rs.map Rw.q).Perm (kvs.map (·.1)):=(List.perm_ext_iff_of_nodup h.rk h.tn.nk).mpr λq=>by
  rw[bA,bA];constructor
  ·rintro⟨x,hx,rfl⟩;obtain⟨k,hk⟩:=hN x hx;exact⟨_,(nH h.tn.nk).mp (h.tn.nb.mpr ⟨k,hk,rfl⟩),rfl⟩
  ·rintro⟨kv,hkv,rfl⟩;obtain⟨k,hk,_⟩:=h.tn.nb.mp ((nH h.tn.nk).mpr (show (kv.1,kv.2)∈kvs from hkv));exact h.rc _ k hk
 have:=this.length_eq;rw[cA,cA] at this;exact this
def aJ (q:List Key) (row:List Int) (rs:List Rw):List Rw:=rs.map λx=>if x.q=q then {x with xs:=row} else x
theorem DQ {α:Type} {q:List Key} {row:List Int} {f:Rw->α} (hf:∀x xs,f {x with xs:=xs}=f x):(aJ q row rs).map f=rs.map f:=by
 unfold aJ;rw[lA];refine DA λx ο=>?_;show f (if x.q=q then _ else x)=f x
 split
 ·exact hf x row
 ·rfl
theorem Bk.on {e:Ho} {y:Int} {row:List Int} (h:Bk A G0 B H r z l f g tks made S es rs rd td kvs τ u) (hN:Nx g S es (kn e) y u S' es' kvs' τ' row) (he:e∈es) (hy:kn e≠2->y < 10) (hR:RH A B H' r z l f g tks [(Sum.inl 0,.int 3)] made' S' es') (hd':H' rd=some (.dT (iE rs))) (hx':∀x∈rs,H' x.a=some (.lst ((if x.q=k2 (kn e) y then row else x.xs).map V.int))) (hs':H' td=some (.dT kvs')) (kp:∀c o,H c=some o->B c≠none->c≠td->(∀x∈rs,c≠x.a)->H' c=some o) (hq:∃x∈rs,x.q=k2 (kn e) y):
  Bk A G0 B H' r z l f g tks made' S' es' (aJ (k2 (kn e) y) row rs) rd td kvs' τ' (u+1):=by
 refine⟨hR,hN.pc,hN.tn,hN.bo,λc y' k hk hc=>?_,λe' he'=>?_,by rw[hN.kk];exact h.nn,?_,h.ts,h.tk,?_,λx hx=>?_,?_,?_,λx hx=>?_,λq k hk=>?_,hs',?_,λe' he'=>?_,⟨h.ow.1,h.ow.2.1,λx hx=>?_⟩,h.ne,λc o hc=>?_⟩
 ·rcases (hN.nb _).mp ⟨k,hk⟩ with z|⟨k',hk'⟩
  ·obtain⟨z1,z2⟩:=EE z;rw[z2];exact hy (by rw[<-z1];exact hc)
  ·exact h.pr c y' k' hk' hc
 ·obtain⟨e0,h0,a1,a2,_⟩:=hN.ek e' he';rw[a1,a2];exact h.ek e0 h0
 ·have:=congrArg List.length hN.kk;rw[cA,cA] at this;rw[this];exact h.el
 ·rw[show iE (aJ (k2 (kn e) y) row rs)=iE rs from DQ λο ο=>rfl];exact hd'
 ·obtain⟨x0,h0,rfl⟩:=bA.mp hx;have:=hx' x0 h0;by_cases c:x0.q=k2 (kn e) y
  ·rw[iA c] at this ⊢;exact this
  ·rw[fA c] at this ⊢;exact this
 ·rw[DQ λο ο=>rfl];exact h.rk
 ·rw[DQ λο ο=>rfl];exact h.ra
 ·obtain⟨x0,h0,rfl⟩:=bA.mp hx;obtain⟨e0,g0,y0,a1,a2⟩:=h.rl x0 h0;obtain⟨e',he',b1,b2⟩:=hN.rw e0 g0;refine⟨e',he',y0,?_,?_⟩
  ·rw[b1];split<;>exact a1
  ·rw[b2];by_cases c:x0.q=k2 (kn e) y
   ·rw[iA c,iA (EE (a1.symm.trans c))]
   ·rw[fA c,fA λz=>c (by rw[a1,z.1,z.2])];exact a2
 ·have:∃x∈rs,x.q=q:=by
   rcases (hN.nb _).mp ⟨k,hk⟩ with z|⟨k',hk'⟩
   ·rw[z];exact hq
   ·exact h.rc q k' hk'
  obtain⟨x,hx,e1⟩:=this;exact⟨_,bA.mpr ⟨x,hx,rfl⟩,by split<;>exact e1⟩
 ·have:=h.sl;have:=hN.sl;omega
 ·obtain⟨e0,h0,_,_,a3⟩:=hN.ek e' he';have:=h.ml e0 h0;omega
 ·obtain⟨x0,h0,rfl⟩:=bA.mp hx;have:=h.ow.2.2 x0 h0
  split<;>exact this
 ·obtain⟨c1,c2,c3,c4,c5⟩:=h.k0 c o hc;refine⟨kp c o c1 c2 c4 c5,c2,c3,c4,λx hx=>?_⟩;obtain⟨x0,h0,rfl⟩:=bA.mp hx;have:=c5 x0 h0
  split<;>exact this
set_option tactic.hygienic true in
theorem mM {n x:Int} (h:n=0\/n=1):(CD n x).1≠2->(CD n x).2 < 10:=by
 unfold CD
 split
 ·exact λz=>absurd rfl z
 ·rename_i c;exact λο=>by show x < 10;omega
theorem ei {p b s:Int} (h0:0<=b) (h1:b < s):(p * s+b) / s=p/\(p * s+b) % s=b:=by
 have e:(p * s+b) / s=p:=by rw[Int.add_comm,Int.add_mul_ediv_right _ _ ⋯,Int.ediv_eq_zero_of_lt h0 h1];omega
 exact⟨e,by rw[Int.emod_def,e,Int.mul_comm s p];omega⟩
theorem Bk.ask {n x b:Int} (h:Bk A G0 B H r z l f g tks made S es rs rd td kvs τ u) (hn:n∈tks.map Tk.n) (hx0:0<=x) (hx1:x < 13) (hb0:0<=b) (hb1:b < pw g) (h13:13<=pw (l * f)) (hu:u<=100):
  ∃t∈tks,∃e∈es,∃p∈es,t.n=n/\p.k=false/\p.n=n/\kn e=(CD n x).1/\EC t x=(e.k,e.n,(CD n x).2)/\(p=e\/mC p x=none)/\((x < 10->e.k=false/\e.n=n)/\(10<=x->e.k=true/\e.n=0))/\(x * pw g+b) / pw g=x/\(x * pw g+b) % pw g=b/\∀wn,Builtin.bitAnd 3 wn=wn->YH A wn B H r z l f g tks [(Sum.inl 0,.int 3)] made S es t n (x * pw g+b) e:=by
 obtain⟨t,ht,t1⟩:=bA.mp hn;obtain⟨p,hp,p1,p2,_⟩:=h.rh.pv ht;have hp2:p.n=n:=p2.trans t1;have hn2:n=0\/n=1:=by
  rcases h.tk with q|q<;>rw[q] at hn<;>simp at hn
  ·exact .inl hn
  ·exact hn
 obtain⟨e1,e2⟩:=ei (p:=x) hb0 hb1;have hts:=h.ts t ht;have sl:=h.sl;have rng:0<=x * pw g+b/\x * pw g+b < pw (l * f) * pw g:=by
  refine⟨Int.add_nonneg (Int.mul_nonneg hx0 ⋯) hb0,?_⟩;have:(x+1) * pw g<=pw (l * f) * pw g:=Int.mul_le_mul_of_nonneg_right ⋯ ⋯;rw[Int.add_mul,Int.one_mul] at this;omega
 by_cases c:x < 10
 ·have hpm:pm t.rs x=some (3,none):=by rw[hts];exact iA ⟨hx0,by show x < 0+10;omega⟩
  have hk:CD n x=(n,x):=fA ⋯;have hl:EC t x=(p.k,p.n,x):=by unfold EC;rw[hpm,p1,hp2,<-t1];rfl
  have ml:=h.ml p hp;refine⟨t,ht,p,hp,p,hp,t1,p1,hp2,by rw[hk];unfold kn;rw[p1];exact hp2,by rw[hk];exact hl,.inl rfl,⟨λο=>⟨p1,hp2⟩,λο=>⋯⟩,e1,e2,λwn hw=>⟨h.rh,h.pc,ht,t1,⟨3,none,by rw[e1];exact hpm,hw⟩,rng,⋯,hp,by rw[e1,hl],by rw[e1,hl],⋯⟩⟩
 ·have hpm:pm t.rs x=some (3,some (0,x - 10)):=by
   rw[hts];show (if (0:Int)<=x/\x < 0+10 then _ else if (10:Int)<=x/\x < 10+3 then some ((3:Int),some ((0:Int),0+x - 10)) else none)=_;rw[fA ⋯,iA ⋯,Int.zero_add]
  have hk:CD n x=(2,x - 10):=iA ⋯;have hb9:(Sum.inl 0:Key)∈(uF es).map λe=>(Sum.inl e.n:Key):=by rw[h.rh.bm];exact qA ..
  obtain⟨e,he,e3⟩:=bA.mp hb9;obtain⟨he,hek⟩:=AA.mp he;have e3:e.n=0:=YA e3;have hek:e.k=true:=hek;have hl:EC t x=(e.k,e.n,x - 10):=by unfold EC;rw[hpm,hek,e3];rfl
  have ml:=h.ml e he;refine⟨t,ht,e,he,p,hp,t1,p1,hp2,by rw[hk];unfold kn;rw[hek];rfl,by rw[hk];exact hl,.inr ?_,⟨λο=>⋯,λο=>⟨hek,e3⟩⟩,e1,e2,λwn hw=>⟨h.rh,h.pc,ht,t1,⟨3,_,by rw[e1];exact hpm,hw⟩,rng,⋯,he,by rw[e1,hl],by rw[e1,hl],⋯⟩⟩;cases e4:mC p x with
  |none=>rfl
  |some k=>
   have hkn:kn p=n:=by unfold kn;rw[p1];exact hp2
   have:=h.pr (kn p) x k ⟨p,hp,_,(OD (h.rh.ux p hp)).mp e4,rfl,rfl⟩ ⋯;omega
end
theorem fi {n j:Nat}:(List.replicate n (0:Int)).getD j 0=0:=by
 rw[List.getD_eq_getElem?_getD,List.getElem?_replicate]
 split<;>rfl
theorem gi {S:List Sh} {made:Int} {a':Addr} {zs ws:List Int} (hb:∀s∈S,s.n < made):FD made ws (S++[(⟨made,a',zs,1⟩:Sh)])=S++[⟨made,a',ws,1⟩]:=by
 unfold FD;rw[gA];have e1:(S.map λs=>if s.n=made then {s with xs:=ws} else s)=S:=by
  refine (DA λs hs=>?_).trans (List.map_id S);exact fA (by have:=hb s hs;omega)
 rw[e1];show S++[if made=made then _ else _]=_;rw[iA rfl]
theorem ii {k:Int} {xs:List Int} {S:List Sh} {s:Sh} (h:s∈FD k xs S):∃s0∈S,s0.n=s.n:=by
 obtain⟨s0,h0,rfl⟩:=bA.mp h;exact⟨s0,h0,by split<;>rfl⟩
theorem Q9 {A:RC} {B H:Hp} {r:Ro} {z:Hz} {l f g:Int} {tks:List Tk} {bk:Kvs} {made:Int} {S:List Sh} {es:List Ho} {e:Ho} {y:Int} (hR:RH A B H r z l f g tks bk made S es) (hP:PC S es) (he:e∈es):(BC g S e y).length=(pw g).toNat:=by
 unfold BC;cases e0:mC e y with
 |none=>exact rB
 |some k=>
  obtain⟨s,hs,e1⟩:=hP.liv e he _ ((OD (hR.ux e he)).mp e0);have e1:s.n=k:=e1;show ((AD S k).getD _).length=_;rw[<-e1,kH hR.s.nn hs];exact hR.sz s hs
def UO (kvs:List (List Key×V)) (o:Option V):Nat:=match o with
 |none=>0
 |some v=>kvs.countP λkv=>decide (kv.2=v)
def vO:Option Int->V
 |none=>.non
 |some i=>.int i
inductive R9 (A:RC) (vs:List V) (H:Hp) (Q:VK) (E:XK):Prop where
 |mk (G0 B:Hp) (r:Ro) (z:Hz) (l f g:Int) (tks:List Tk) (made:Int) (S:List Sh) (es:List Ho) (rs:List Rw) (rd td:Addr) (kvs:List (List Key×V)) (τ:Int->Int) (u n x b:Int) (v:Option Int) (sp:Addr) (_:vs=[.ref r.p,.ref rd,.ref td,.ref sp,vO v,.int u]) (_:Bk A G0 B H r z l f g tks made S es rs rd td kvs τ u) (_:H sp=some (.tup [.int n,.int x,.int b])) (_:n∈tks.map Tk.n) (_:(0<=x/\x < 13)) (_:(0<=b/\b < pw g)) (_:(∃w∈rs,w.q=k2 (CD n x).1 (CD n x).2)) (_:0<=u) (_:u<=60) (_:r.most=64) (_:13<=pw (l * f)) (_:∀made' S' es' rs' kvs' τ' H',Bk A G0 B H' r z l f g tks made' S' es' rs' rd td kvs' τ' (u+1)->rs'.map Rw.q=rs.map Rw.q->(∀q,(∃k,Nb es' q k)↔q=k2 (CD n x).1 (CD n x).2\/∃k,Nb es q k)->Q (.bl true) H'):R9 A vs H Q E
def ji (A:RC):Sp:=R9 A
theorem nM (T:fD K mg A):TD P w K mg base "_law_access" 11 ["_law_rooms","_law_rows","_law_sheets","_law_spot","_law_value","_law_turn_here"] [] (ji A):=by
 have Cj:=@vU P w K mg base A T;have Bg:=@nU P w K mg base A T;have Il:=@Oh P w K mg base A T;have Gy:=@Qh P w K mg base A T;refine T.Jj.have JM (λvs H Q E z=>?_) ?_
 ·obtain⟨G0,B,r,z,l,f,g,tks,made,S,es,rs,rd,td,kvs,τ,u,n,x,b,v,sp,rfl,_⟩:=z;rfl
 ·intro f cdv A' outer s H vs Q E hr z;obtain⟨G0,B,r,z,l,f',g,tks,made,S,es,rs,rd,td,kvs,τ,u,n,x,b,v,sp,rfl,hB,hsp,hn,⟨hx0,hx1⟩,⟨hb0,hb1⟩,⟨w0,hw0,hq0⟩,hu0,hu,hmo,h13,q⟩:=z;obtain⟨t,ht,e,he,p,hp,t1,pk,pn,hkn,hlk,hpe,_,a1,a2,hA⟩:=hB.ask hn hx0 hx1 hb0 hb1 h13 ⋯;have htd0:=hB.sh;have hn2:n=0\/n=1:=by
   rcases hB.tk with q|q<;>rw[q] at hn<;>simp at hn
   ·exact .inl hn
   ·exact hn
  refine⟨_,(CC (iD (i:=6) JM.nd rfl (Or.inl rfl) (GD fE (eC 3) yC (λο ο=>rfl)))
   (CC (iD (i:=7) JM.nd rfl (Or.inl rfl) (GD fE (eC 3) yC (λο ο=>rfl)))
   (CC (iD (i:=8) JM.nd rfl (Or.inr rfl) (DD Cj (hr.mono (by decide)) GC (iC (eC 6) (iC (GD fE (eC 3) yC (λο ο=>rfl)) rC))))
   (CC (iD (i:=9) JM.nd rfl (Or.inl rfl) (BD aG (BD uN (GD fE (eC 3) yC (λο ο=>rfl)) (rF oJ rfl T.A7 PySem.boot_len (iC (VD (dD hr) (eC 1) (eC 8) (λο ο=>rfl)) rC))) (eC 7)))
   (LI (HR (yR (i:=10) JM.nd rfl rfl rfl (JR (eC 2)) (x:="_law_other") (fs:=["_law_sheets","_law_key_here"]) (ix:=[2,8]) rfl rfl (λο ο ο ο ο ο=>(wF (i:=0) (show (["_law_other","_law_sheets","_law_key_here"]:List Str).Nodup by decide+kernel) rfl (Or.inl rfl))) (λο ο ο ο ο ο=>(bQ (PW.pt (KP (bJ (dR (dD hr) (eC 2) (eC 1))) (JP (pE EI (VD (dD hr) (eC 1) (eC 0) (λο ο=>rfl)) (VD (dD hr) (eC 1) (eC 2) (λο ο=>rfl)) (wC _))))))) (λο ο ο ο ο ο=>(eC 0))))
   (LI (hE (PW.pt (gN (bJ (NN (dD hr) (eC 8) (eC 2))) (zK (PW.pt (KP (pE Y2 (eC 4) ZF (wC _)) (JP (pE IK (rF oJ rfl T.A7 PySem.boot_len (iC (eC 10) rC)) yC (wC _)))))))) (FC (QF (dD hr) (eC 2) (eC 8) (eC 5) rfl)) kE)
   (CC (hE (pE fI (eC 4) ZF (wC _)) (FC (uD (DD Bg (hr.mono (by decide)) GC (iC (HD (eC 0) T.Ac Il (hr.mono (by decide)) GC (iC (eC 6) (iC (eC 9) rC))) (iC (GD jI (VD (dD hr) (eC 1) (eC 8) (λο ο=>rfl)) (eC 7) (λο ο=>rfl)) rC))))) kE)
   (CC (Z1 (eC 4) (Y1 (VD (dD hr) (eC 1) (eC 8) (λο ο=>rfl)) (eC 7) X3))
   (FC (uD (DM fI (HD (eC 0) T.Ac Gy (hr.mono (by decide)) GC (iC (eC 6) (iC (eC 9) (iC (eC 4) rC)))) ZF (wC _)))))))))))),?_⟩
  unfold pD;rfl';refine⟨_,ZC.of hsp,_,rfl,_,ZC.of hsp,_,rfl,_,ZC.of hsp,_,rfl,n,x,rfl,λkp H1 s1 hkp hkey=>?_⟩;have hsp1:=s1 _ _ hsp;have hB:=hB.same s1;have hrl:w0.xs=BC g S e (CD n x).2:=by
   obtain⟨e0,h0,y0,b1,b2⟩:=hB.rl w0 hw0;obtain⟨c1,c2⟩:=EE (b1.symm.trans hq0);rw[b2,c2,cE hB.nn h0 he (c1.trans hkn.symm)]
  have hlen:(((w0.xs.map V.int).length:Nat):Int)=pw g:=by
   rw[cA,hrl,Q9 hB.rh hB.pc he];omega
  have hkq:H1 kp=some (.tup ((k2 (kn e) (CD n x).2).map kV)):=by rw[hkn];exact hkey
  rw[<-hkn] at hq0;generalize hyy:(CD n x).2=y at *;generalize hkk:k2 (kn e) y=kq at *;refine⟨_,ZC.of hsp1,_,rfl,V.ref w0.a,.inr ⟨iE rs,kq,kp,.inl hB.hd,rfl,hkq,by rw[<-hq0];exact (jM hB.rk hw0).symm⟩,_,.inl ⟨_,QC.of (hB.rx w0 hw0),rfl⟩,x,rfl,.inl ⟨⋯,⋯⟩,b,rfl,?_⟩;rw[hlen];have hkl:=hB.kl ⋯;have hget:=hB.tn.get hB.nn he (hB.rh.ux e he) y;rw[show ([Sum.inl (kn e),Sum.inl y]:List Key)=kq from hkk] at hget;have npk:∀{o},H1 kp=some o->kp≠td:=λο z=>by rw[z,hB.sh] at hkq;cases hkq
  have hz:=PySem.sizeLine_eq;have hkey:H1 kp=some (.tup (kq.map kV)):=hkq;refine⟨λσ G=>∃al us,σ=[some (.ref r.p),some (.ref rd),some (.ref td),some (.ref sp),some (vO v),some (.int u),some (.int n),some (.int b),some (.ref kp),some (.int (x * pw g+b)),some (.ref al)]/\uC H1 G/\G al=some (.lst us)/\us.length=UO kvs (gC kvs kq),?_,λσ2 H2=>?_⟩
  ·refine⟨td,?_,?_⟩
   ·intro o u;rw[zQ,htd0];exact λz=>nomatch z
   unfold oF TF II;rfl';refine⟨kvs,hB.sh,λo D hD=>?_⟩;have hk2:∀b u,H1 b=some u->b≠td->jC H1 td (.frz o (.dT kvs)) b=some u:=λb u h hb=>by rw[vC hb];exact h
   have ha2:jC H1 td (.frz o (.dT kvs)) td=some (.frz o (.dT kvs)):=IC;generalize jC H1 td (.frz o (.dT kvs))=H2 at *;have hDa:D≠td:=λz=>by rw[z,ha2] at hD;cases hD
   have hD0:H1 D=none:=by
    cases e:H1 D with
    |none=>rfl
    |some u=>rw[hk2 D u e hDa] at hD;cases hD
   refine b6 (λi ys σ H'=>∃v0,σ=[v0,some (.ref td),some (.ref kp)]/\(∀b u,H1 b=some u->b≠td->H' b=some u)/\H' td=some (.frz o (.dT kvs))/\ys.length=UO (kvs.take i) (gC kvs kq)/\H' D=some (.lst ys)) ⟨_,rfl,λb u h hb=>?_,?_,?_,IC⟩ (λi ys σ H' _ zz=>by obtain⟨_,zz⟩:=zz;exact zz.2.2.1) (λi k x' b' ys σ H' hi hb'=>?_) (λys σ H'=>?_)
   ·rw[vC (bD h hD0)];exact hk2 b u h hb
   ·rw[vC (Ne.symm hDa)];exact ha2
   ·unfold UO;cases gC kvs kq<;>rfl
   ·rintro⟨v0,rfl,hk,ha,hyl,hD'⟩;have hil:=(IA.mp hi).1;have htk:kvs.take (i+1)=kvs.take i++[(k,x')]:=by rw[NA,hi];rfl
    have hkey':=hk _ _ hkey (npk hkey);have hx':=hB.tn.ints _ (JA hi);have hvk:gC kvs k=some x':=(nH hB.tn.nk).mpr (JA hi);rfl';refine⟨_,.inr ⟨kvs,kq,kp,.inr ⟨o,ha⟩,rfl,hkey',rfl⟩,?_⟩;cases eo:gC kvs kq with
    |none=>rw[eo] at hyl;exact wD ⟨hk,ha,hyl,hD'⟩
    |some v9=>
     rw[eo] at hyl;have hyb:ys.length<=6000:=by
      rw[hyl];refine dB List.countP_le_length ?_;rw[cB];omega
     have hv':=hB.tn.ints _ ((nH hB.tn.nk).mp eo);refine xD ⟨x',.inr ⟨kvs,k,b',.inr ⟨o,ha⟩,rfl,hb',hvk.symm⟩,v9,.inr ⟨kvs,kq,kp,.inr ⟨o,ha⟩,rfl,hkey',eo.symm⟩,by rw[show x'=V.int (tI x') from hx',show v9=V.int (tI v9) from hv'];rfl,?_⟩;have hal:UO (kvs.take (i+1)) (some v9)=ys.length+if x'=v9 then 1 else 0:=by
      rw[hyl,htk];unfold UO;show List.countP _ (_++_)=_;rw[List.countP_append];by_cases cx:x'=v9
      ·rw[iA cx,List.countP_cons_of_pos (p:=λkv:List Key×V=>decide (kv.2=v9)) (a:=(k,x')) (nA cx)];rfl
      ·rw[fA cx,List.countP_cons_of_neg (p:=λkv:List Key×V=>decide (kv.2=v9)) (a:=(k,x')) (by simpa using cx)];rfl
     by_cases cx:x'=v9
     ·rw[iA cx] at hal ⊢;refine⟨hD',⋯,λb u h hb=>?_,?_,by rw[oA,hal];rfl⟩
      ·rw[vC (bD h hD0)];exact hk b u h hb
      ·rw[vC (Ne.symm hDa)];exact ha
     ·rw[fA cx] at hal ⊢;exact⟨hk,ha,hal.symm,hD'⟩
   ·rintro⟨v0,rfl,hk,ha,hyl,hD'⟩;rw[VA] at hyl;rw[GR ha];refine⟨λb u h=>?_,_,by rw[vC hDa];exact hD',hyl⟩;by_cases hb:b=td
    ·rw[hb,hB.sh] at h;rw[hb,IC];exact h
    ·rw[vC hb];exact hk b u h hb
  rintro⟨al,us,rfl,s2,hal,hul⟩;have hkey:=s2 _ _ hkey;have hB:=hB.same s2;refine⟨λσ G=>∃ks,σ=[some (.ref r.p),some (.ref rd),some (.ref td),some (.ref sp),some (vO v),some (.int u),some (.int n),some (.int b),some (.ref kp),some (.int (x * pw g+b)),some (.ref al)]/\Kd td H2 G/\G td=some (.dT ks)/\(((gC kvs kq=none\/(v≠none/\1 < us.length))/\ks=JC kvs kq (.int u))\/(¬(gC kvs kq=none\/(v≠none/\1 < us.length))/\ks=kvs)),?_,λσ3 H3=>?_⟩
  ·unfold ND qE;rfl';refine⟨_,.inr ⟨kvs,kq,kp,.inl hB.sh,rfl,hkey,rfl⟩,?_⟩;have put:∀C:Prop,C->∃x,wG H2 td (V.ref kp) (V.int u) x/\Kd td H2 x/\∃x_1,x td=some (HO.dT x_1)/\(C/\x_1=JC kvs kq (V.int u)\/¬C/\x_1=kvs):=λC c=>⟨_,.inr ⟨kvs,kq,kp,hB.sh,rfl,hkey,⋯,rfl⟩,sE,_,IC,.inl ⟨c,rfl⟩⟩
   have keep:∀C:Prop,¬C->Kd td H2 H2/\∃x,H2 td=some (HO.dT x)/\(C/\x=JC kvs kq (V.int u)\/¬C/\x=kvs):=λC c=>⟨λο ο h ο=>h,kvs,hB.sh,.inr ⟨c,rfl⟩⟩
   cases eo:gC kvs kq with
   |none=>exact xD (put _ (.inl rfl))
   |some v9=>
    refine wD ?_;cases v with
    |none=>
     rw[show vO none=V.non from rfl,nA rfl];exact wD (wD (keep _ λz=>z.elim (λz=>nomatch z) λz=>z.1 rfl))
    |some i=>
     rw[HA (show ¬vO (some i)=V.non from λz=>nomatch z)];refine xD ⟨_,.inl ⟨_,QC.of hal,rfl⟩,?_⟩;by_cases c:1 < us.length
     ·rw[iA ⋯];exact put _ (.inr ⟨(λz=>nomatch z),c⟩)
     ·rw[fA ⋯];exact keep _ λz=>z.elim (λz=>nomatch z) λz=>c z.2
  rintro⟨ks,rfl,k3,hsh3,hks⟩;have hR3:=hB.rh.kd hB.sh (hB.rh.nb hB.ow.2.1) (.inr (.inl ⟨_,rfl⟩)) k3 hsh3;have hd3:=k3 _ _ hB.hd hB.ne;have hx3:∀w∈rs,H3 w.a=some (.lst (w.xs.map V.int)):=λw hw=>k3 _ _ (hB.rx w hw) (LC (hB.rx w hw) hB.sh (λz=>nomatch z));have hkey3:=k3 _ _ hkey (LC hkey hB.sh (λz=>nomatch z));have hA3:∀wn,Builtin.bitAnd 3 wn=wn->YH A wn B H3 r z l f' g tks [(Sum.inl 0,.int 3)] made S es t n (x * pw g+b) e:=λwn hw=>⟨hR3,(hA wn hw).2⟩
  obtain⟨dx3,h1⟩:=hR3.s.me;have hy10:kn e≠2->y < 10:=by rw[hkn,<-hyy];exact mM hn2
  have fin:∀made' S' es' τ' row H',Nx g S es (kn e) y u S' es' ks τ' row->RH A B H' r z l f' g tks [(Sum.inl 0,.int 3)] made' S' es'->(∀w∈rs,H' w.a=some (.lst ((if w.q=kq then row else w.xs).map V.int)))->(∀c o,H3 c=some o->B c≠none->(∀w∈rs,c≠w.a)->H' c=some o)->Q (.bl true) H':=λmade' S' es' τ' row H' hN hR hx hk=>by
   have kp9:∀c o,H2 c=some o->B c≠none->c≠td->(∀w∈rs,c≠w.a)->H' c=some o:=λc o h n1 n2 n3=>hk c o (k3 _ _ h n2) n1 n3;refine q _ _ _ _ _ _ H' (hB.on (e:=e) (y:=y) hN he hy10 hR (kp9 _ _ hB.hd hB.ow.1 hB.ne λw hw=>LC hB.hd (hB.rx w hw) (λz=>nomatch z)) (by rw[hkk];exact hx) (hk _ _ hsh3 hB.ow.2.1 λw hw=>LC hsh3 (hx3 w hw) (λz=>nomatch z)) kp9 ⟨w0,hw0,by rw[hkk];exact hq0⟩) (DQ λο ο=>rfl) (λq'=>by rw[<-hkn];exact hN.nb q')
  have fb:∀{H5 H6:Hp},Fb S r es H5 H6->∀c o,H5 c=some o->B c≠none->H6 c=some o:=λfr c o h nc=>let ⟨m0,⟨m1,m2,_⟩,m7,m8⟩:=hB.rh.no (hB.rh.nb nc);fr c o h m0 m1 m2 m7 m8
  have hwl:w0.xs.length=(pw g).toNat:=by rw[hrl];exact Q9 hB.rh hB.pc he
  have hD:=(UL hB.rh.nd).nd;have sl:=hB.sl;have hrs:∀w∈rs,w.q=kq->w=w0:=λw hw z=>cE hB.rk hw hw0 (z.trans hq0.symm);cases v with
  |none=>
   rw[show vO none=V.non from rfl];rfl';have rest:∀H4,H4 rd=some (.dT (iE rs))->H4 kp=some (.tup (kq.map kV))->H4 w0.a=some (.lst (w0.xs.map V.int))->∀v,v=w0.xs.getD b.toNat 0->Q (.bl true) H4->∃x_3,YD H4 rd (V.ref kp) (some x_3)/\∃p,x_3=V.ref p/\∃x_4,QC K H4 p x_4/\∃x_5,oG x_4 b=some x_5/\sp_whole [.int v,x_5] H4 Q λc x H'=>E c none H':=λH4 c1 c2 c3 v c4 c5=>⟨V.ref w0.a,.inr ⟨iE rs,kq,kp,.inl c1,rfl,c2,by rw[<-hq0];exact (jM hB.rk hw0).symm⟩,w0.a,rfl,_,QC.of c3,_,M8 hb0 ⋯,v,_,rfl,by rw[nA c4];exact c5⟩
   refine⟨dx3,_,h1,QE ∅,B,r,z,l,f',g,tks,_,made,S,es,t,n,_,e,rfl,hA3 1 (by decide),?_⟩;rw[a1,a2,hlk];cases e0:mC e y with
   |some k=>
    obtain⟨s,hs,e1⟩:=hB.pc.liv e he _ ((OD (hB.rh.ux e he)).mp e0);have e1:s.n=k:=e1;subst e1;have hrow:=XI (g:=g) hB.rh.s.nn hs e0;rw[e0] at hget;obtain rfl:ks=kvs:=by
     rcases hks with ⟨c,_⟩|⟨_,c⟩
     ·rcases c with c|c
      ·rw[hget] at c;cases c
      ·exact absurd rfl c.1
     ·exact c
    refine .inl ⟨s,hs,rfl,λH4 s4=>rest H4 (s4 _ _ hd3) (s4 _ _ hkey3) (s4 _ _ (hx3 w0 hw0)) _ (by rw[hrl,hrow]) (fin made S es τ (BC g S e y) H4 (Nx.same hB.tn hB.pc hB.bo he (hB.rh.ux e he) e0 (λs hs=>⟨s,hs,rfl⟩) rfl λe' he' y'=>?_) (hR3.same s4) (λw hw=>?_) λc o h ο ο=>s4 _ _ h)⟩
    ·by_cases c:kn e'=kn e/\y'=y
     ·rw[iA c,c.2,cE hB.nn he' he c.1]
     ·rw[fA c]
    ·by_cases c:w.q=kq
     ·rw[iA c,hrs w hw c,<-hrl];exact s4 _ _ (hx3 w0 hw0)
     ·rw[fA c];exact s4 _ _ (hx3 w hw)
   |none=>
    rw[e0] at hget;obtain rfl:ks=JC kvs kq (.int u):=by
     rcases hks with ⟨_,c⟩|⟨c,_⟩
     ·exact c
     ·exact absurd (.inl hget) c
    have hrow:BC g S e y=List.replicate (pw g).toNat 0:=by unfold BC;rw[e0];rfl
    refine .inr (.inr ⟨rfl,⋯,λa' H4 hR4 fr=>?_⟩);have kp4:=fb fr;have k4:∀{c o},H3 c=some o->B c≠none->H4 c=some o:=λh nc=>kp4 _ _ h nc;have hkeyB:H4 kp=some (.tup (kq.map kV)):=fr _ _ hkey3 (LC hkey3 h1 (λz=>nomatch z)) (LC hkey3 hR3.s.s (λz=>nomatch z)) (LC hkey3 hR3.s.h (λz=>nomatch z)) (λz=>by
     obtain⟨e9,he9,h9⟩:=bA.mp z;have h8:=hR3.pe e9 he9;rw[h9,hkey3] at h8;cases h8) (λs hs=>LC hkey3 (hR3.s.x s hs) (λz=>nomatch z))
    have hN:=Nx.newp (g:=g) (a':=a') (zs:=List.replicate (pw g).toNat 0) hB.tn hB.pc hB.bo hD hB.nn hB.rh.ux hB.rh.s.b he e0 hu0 hR4.s.nn (hR4.ux _ (YI he));rw[hkk] at hN;refine rest H4 (k4 hd3 hB.ow.1) hkeyB (k4 (hx3 w0 hw0) (hB.ow.2.2 w0 hw0)) 0 (by rw[hrl,hrow,fi]) (fin _ _ _ _ _ H4 hN hR4 (λw hw=>?_) λc o h nc ο=>k4 h nc);by_cases c:w.q=kq
    ·rw[iA c,hrs w hw c,<-hrow,<-hrl];exact k4 (hx3 w0 hw0) (hB.ow.2.2 w0 hw0)
    ·rw[fA c];exact k4 (hx3 w hw) (hB.ow.2.2 w hw)
  |some i=>
   rw[show vO (some i)=V.int i from rfl];rfl';rw[fA (λz=>nomatch z)];refine⟨V.ref w0.a,.inr ⟨iE rs,kq,kp,.inl hd3,rfl,hkey3,by rw[<-hq0];exact (jM hB.rk hw0).symm⟩,w0.a,rfl,_,hx3 w0 hw0,_,by rw[cA];exact lU hb0 ⋯,?_⟩;rw[<-List.map_set];have k4:Kd w0.a H3 (jC H3 w0.a (.lst ((w0.xs.set b.toNat i).map V.int))):=sE;have g4:jC H3 w0.a (.lst ((w0.xs.set b.toNat i).map V.int)) w0.a=some (.lst ((w0.xs.set b.toNat i).map V.int)):=IC;have hR4:=hR3.kd (hx3 w0 hw0) (hR3.nb (hB.ow.2.2 w0 hw0)) (.inr (.inr (by
    have hg:=oI hB.rh.gd;cases hx:w0.xs with
    |nil=>rw[hx] at hwl;simp at hwl;omega
    |cons a1 l1=>exact⟨a1,_,rfl⟩))) k4 g4
   generalize jC H3 w0.a (.lst ((w0.xs.set b.toNat i).map V.int))=H4 at *;have hA4:YH A 2 B H4 r z l f' g tks [(Sum.inl 0,.int 3)] made S es t n (x * pw g+b) e:=⟨hR4,(hA 2 (by decide)).2⟩
   obtain⟨dx4,h14⟩:=hR4.s.me;have mlp:=hB.ml p hp;have fin2:∀made' S' es' τ' H',Nx g S es (kn e) y u S' es' ks τ' ((BC g S e y).set b.toNat i)->RH A B H' r z l f' g tks [(Sum.inl 0,.int 3)] made' S' es'->Fb S r es H4 H'->Q (.bl (decide (V.non=V.non))) H':=λmade' S' es' τ' H' hN hR fr=>by
    rw[nA rfl];refine fin made' S' es' τ' _ H' hN hR (λw hw=>?_) λc o h nc n1=>fb fr c o (k4 _ _ h (n1 w0 hw0)) nc;refine fb fr _ _ ?_ (hB.ow.2.2 w hw);by_cases c:w.q=kq
    ·rw[iA c,hrs w hw c,<-hrl];exact g4
    ·rw[fA c];exact k4 _ _ (hx3 w hw) (λz=>c (by rw[cE hB.ra hw hw0 z];exact hq0))
   refine⟨dx4,_,h14,QE ∅,B,r,z,l,f',g,tks,_,made,S,es,t,n,_,i,e,p,rfl,hA4,hp,pk,pn,⋯,by rw[a1];exact hpe,?_⟩;rw[a1,a2,hlk];cases e0:mC e y with
   |none=>
    rw[e0] at hget;obtain rfl:ks=JC kvs kq (.int u):=by
     rcases hks with ⟨_,c⟩|⟨c,_⟩
     ·exact c
     ·exact absurd (.inl hget) c
    refine .inr (.inr (.inr (.inr ⟨rfl,⋯,λa' H5 hR5 fr=>?_⟩)));rw[gi hB.rh.s.b] at hR5;have hrow:BC g S e y=List.replicate (pw g).toNat 0:=by unfold BC;rw[e0];rfl
    have hN:=Nx.newp (g:=g) (a':=a') (zs:=(List.replicate (pw g).toNat (0:Int)).set b.toNat i) hB.tn hB.pc hB.bo hD hB.nn hB.rh.ux hB.rh.s.b he e0 hu0 hR5.s.nn (hR5.ux _ (YI he));rw[hkk,<-hrow] at hN;rw[<-hrow] at hR5;exact fin2 _ _ _ _ H5 hN hR5 fr
   |some k=>
    obtain⟨s,hs,e1⟩:=hB.pc.liv e he _ ((OD (hB.rh.ux e he)).mp e0);have e1:s.n=k:=e1;subst e1;rw[e0] at hget;have hget:gC kvs kq=some (V.int (τ s.n)):=hget;have hal:=hB.tn.alike hB.pc hB.nn hB.rh.ux hs;rw[hget] at hul;have hul:us.length=kvs.countP λkv=>decide (kv.2=V.int (τ s.n)):=hul;have hrow:=XI (g:=g) hB.rh.s.nn hs e0;by_cases h2:1 < us.length
    ·obtain rfl:ks=JC kvs kq (.int u):=by
      rcases hks with ⟨_,c⟩|⟨c,_⟩
      ·exact c
      ·exact absurd (.inr ⟨(λz=>nomatch z),h2⟩) c
     have hek:e.k=false:=by
      cases c:e.k with
      |false=>rfl
      |true=>
       have:=hB.tn.bank1 hB.pc hB.bo (q:=k2 (kn e) y) (k:=s.n) ⟨y,by unfold kn;rw[c];rfl⟩ ⟨e,he,_,(OD (hB.rh.ux e he)).mp e0,rfl,rfl⟩;omega
     obtain⟨l1,_⟩:=P8 (t:=t) (x:=x) (by rw[hlk];exact hek);rw[hlk] at l1;have hen:e.n=n:=(congrArg (λz=>z.2.1) l1).trans t1;have hyx:y=x:=congrArg (λz=>z.2.2) l1;subst hyx;refine .inr (.inr (.inl ⟨s,hs,rfl,⋯,hek,⋯,λa' H5 hR5 fr=>?_⟩));rw[<-hek,<-hen] at hR5;have hN:=Nx.copyp (g:=g) (a':=a') (zs:=s.xs.set b.toNat i) hB.tn hB.pc hB.bo hD hB.nn hB.rh.ux hB.rh.s.b hB.rh.s.nn he hs e0 ⋯ hu0 hR5.s.nn (hR5.ux _ (YI he));rw[hkk,<-hrow] at hN;rw[<-hrow] at hR5;exact fin2 _ _ _ _ H5 hN hR5 fr
    ·obtain rfl:ks=kvs:=by
      rcases hks with ⟨c,_⟩|⟨_,c⟩
      ·rcases c with c|c
       ·rw[hget] at c;cases c
       ·exact absurd c.2 h2
      ·exact c
     refine .inl ⟨s,hs,rfl,.inl ⋯,λH5 hR5 fr=>fin2 _ _ _ _ H5 (Nx.same hB.tn hB.pc.box hB.bo he (hB.rh.ux e he) e0 (λs' hs'=>ii hs') (cA ..) λe' he' y'=>?_) hR5 fr⟩;rw[hrow];exact ai hB.rh.s.nn hs hB.pc he hB.nn hB.rh.ux e0 (λe2 h2 y2 z=>hB.tn.only hB.nn hB.rh.ux he e0 ⋯ h2 z) he'
theorem S9 {i:Int}:FN (.int i) (.int i)=true:=X4 rfl
def gH (xs:List Int):List Dv:=xs.map λi=>Dv.leaf (.int i)
theorem T9:∀xs:List Int,SC (gH xs) (gH xs)=true/\UC (gH xs) (gH xs)=true/\jD (gH xs)=0
 |[]=>⟨by simp[gH,SC],by simp[gH,UC],by simp[gH,jD]⟩
 |x::xs=>by
  obtain⟨h1,h2,h3⟩:=T9 xs;unfold gH at h1 h2 h3 ⊢;rw[yA];exact⟨by simp[SC,alike,h1],by simp[UC,ZD,S9,h2],by simp[jD,BG,h3]⟩
theorem U9 {H:Hp}:∀xs:List Int,NC K H (gH xs) (xs.map V.int)
 |[]=>by unfold gH NC;rfl
 |x::xs=>by
  unfold gH;rw[yA,yA];unfold NC;exact⟨_,_,rfl,by unfold yD;exact⟨rfl,rfl⟩,U9 xs⟩
def aI (x:Int) (xs:List Int):List Dv:=[.leaf (.int x),.leaf (.int 3),.seq false (gH xs)]
theorem oM {H:Hp} {a c:Addr} {x:Int} {xs:List Int} (h1:H a=some (.tup [.int x,.int 3,.ref c])) (h2:H c=some (.lst (xs.map V.int))):yD K H (.seq true (aI x xs)) (.ref a):=by
 unfold yD;refine⟨a,_,rfl,by rw[iA rfl];exact ZC.of h1,?_⟩;unfold aI NC;refine⟨_,_,rfl,by unfold yD;exact⟨rfl,rfl⟩,?_⟩;unfold NC;refine⟨_,_,rfl,by unfold yD;exact⟨rfl,rfl⟩,?_⟩;unfold NC;refine⟨_,_,rfl,?_,by unfold NC;rfl⟩;unfold yD;exact⟨c,_,rfl,by rw[fA wA];exact QC.of h2,U9 xs⟩
def pH (ps:List (Int×List Int)):List Dv:=ps.map λp=>.seq true (aI p.1 p.2)
def wU (H:Hp) (v:V) (p:Int×List Int):Prop:=∃a c,v=.ref a/\H a=some (.tup [.int p.1,.int 3,.ref c])/\H c=some (.lst (p.2.map V.int))
theorem xU {H:Hp}:∀{us:List V} {ps:List (Int×List Int)},Paired (wU H) us ps->NC K H (pH ps) us
 |_,_,.nil=>by unfold pH NC;rfl
 |_,_,.cons ⟨a,c,e,h1,h2⟩ t=>by
  unfold pH;rw[yA];unfold NC;exact⟨_,_,rfl,by rw[e];exact oM h1 h2,xU t⟩
theorem V9:∀ps:List (Int×List Int),SC (pH ps) (pH ps)=true/\UC (pH ps) (pH ps)=true/\jD (pH ps)<=3
 |[]=>⟨by simp[pH,SC],by simp[pH,UC],by simp[pH,jD]⟩
 |p::ps=>by
  obtain⟨h1,h2,h3⟩:=V9 ps;obtain⟨e1,e2,e3⟩:=T9 p.2;unfold pH at h1 h2 h3 ⊢;rw[yA];have w1:SC (aI p.1 p.2) (aI p.1 p.2)=true:=by simp[aI,SC,alike,e1]
  have w2:UC (aI p.1 p.2) (aI p.1 p.2)=true:=by simp[aI,UC,ZD,S9,e2]
  have w3:jD (aI p.1 p.2)<=1:=by simp[aI,jD,BG,e3]
  exact⟨by simp[SC,alike,w1,h1],by simp[UC,ZD,w2,h2],by simp only[jD,BG];omega⟩
theorem W9 {α β γ:Type} {R:α->β->Prop} {S:α->γ->Prop} {f:β->γ}:∀{us:List α} {ps:List β},Paired R us ps->(∀v p,p∈ps->R v p->S v (f p))->Paired S us (ps.map f)
 |_,_,.nil,_=>.nil
 |_,_,.cons r t,k=>.cons (k _ _ (qA ..) r) (W9 t λv p hp=>k v p (xA _ hp))
theorem X9 (k:Nat):(List.replicate k [V.int 0]).flatten=(List.replicate k (0:Int)).map V.int:=by
 induction k with
 |zero=>rfl
 |succ k ih=>rw[gB,AB,ih,gB];rfl
def iF (rs:List Rw) (g:Int) (q:List Key):List Int:=((rs.find? λx=>decide (x.q=q)).map Rw.xs).getD (List.replicate (pw g).toNat 0)
theorem Bk.rowq {G0 B H:Hp} {r:Ro} {z:Hz} {l f g:Int} {tks:List Tk} {made:Int} {S:List Sh} {es:List Ho} {rs:List Rw} {rd td:Addr} {kvs:List (List Key×V)} {τ:Int->Int} {u:Int} {e:Ho} (h:Bk A G0 B H r z l f g tks made S es rs rd td kvs τ u) (he:e∈es) (y:Int):iF rs g (k2 (kn e) y)=BC g S e y:=by
 unfold iF;cases e1:rs.find? λx=>decide (x.q=k2 (kn e) y) with
 |some w=>
  have h1:=sB e1;have h1:w.q=k2 (kn e) y:=UA h1;obtain⟨e0,h0,y0,a1,a2⟩:=h.rl w (WA e1);obtain⟨b1,b2⟩:=EE (a1.symm.trans h1);rw[<-b2,<-cE h.nn h0 he b1];exact a2
 |none=>
  have:mC e y=none:=by
   cases e2:mC e y with
   |none=>rfl
   |some k=>
    obtain⟨x,hx,e3⟩:=h.rc _ k ⟨e,he,_,(OD (h.rh.ux e he)).mp e2,rfl,rfl⟩;exact absurd (nA e3) (kB.mp e1 _ hx)
  unfold BC;rw[this];rfl
theorem yU:(WF lM).map (·.1)=(List.range 13).map λ(k:Nat)=>(k:Int):=by decide
theorem VO:∀p∈WF lM,(0<=p.1/\p.1 < 13)/\p.2.1=3/\p.2.2=if p.1 < 10 then none else some (0,p.1 - 10):=by decide
inductive Y9 (A:RC) (vs:List V) (H:Hp) (Q:VK) (E:XK):Prop where
 |mk (G0 B:Hp) (r:Ro) (z:Hz) (l f g:Int) (tks:List Tk) (made:Int) (S:List Sh) (es:List Ho) (rs:List Rw) (rd td:Addr) (kvs:List (List Key×V)) (τ:Int->Int) (u:Int) (_:vs=[.ref r.p,.ref rd,.int (tks.length:Int),.int (pw g)]) (_:Bk A G0 B H r z l f g tks made S es rs rd td kvs τ u) (_:13<=pw (l * f)) (_:u<=100) (_:∀H',uC H H'->Q (.bl true) H'):Y9 A vs H Q E
def ki (A:RC):Sp:=Y9 A
theorem pM (T:fD K mg A):TD P w K mg base "_law_seen" 7 ["_law_rooms","_law_rows","_law_tasks","_law_size"] [] (ki A):=by
 have Cj:=@vU P w K mg base A T;have Fp:=@OO P w K mg base A T;refine T.Ki.have mQ (λvs H Q E z=>?_) ?_
 ·obtain⟨G0,B,r,z,l,f,g,tks,made,S,es,rs,rd,td,kvs,τ,u,rfl,_⟩:=z;rfl
 ·intro f cdv A' outer s H vs Q E hr z;obtain⟨G0,B,r,z,l,f',g,tks,made,S,es,rs,rd,td,kvs,τ,u,rfl,hB,h13,hu,q⟩:=z;have htl:tks.length<=2:=by
   rcases hB.tk with h|h<;>have:=congrArg List.length h<;>rw[cA] at this<;>simp at this<;>omega
  have htm:∀i:Nat,i < tks.length->(0+(i:Int))∈tks.map Tk.n:=λi hi=>by
   rcases hB.tk with h|h<;>have e:=congrArg List.length h<;>rw[cA] at e<;>simp at e<;>rw[h]
   ·rw[show i=0 by omega];exact qA ..
   ·rcases (show i=0\/i=1 by omega) with rfl|rfl
    ·exact qA ..
    ·exact xA _ (qA ..)
  have hz:=PySem.sizeLine_eq;have hg:=oI hB.rh.gd;refine⟨_,(CC (GH aB rfl (PQ rfl T.D0 (iC (eC 2) rC)) (wF (i:=4) mQ.nd rfl (Or.inl rfl)) (CC (iD (i:=5) mQ.nd rfl (Or.inl rfl) (gI rC))
   (CC (GH aB rfl (PQ rfl T.D0 (iC yC rC)) (wF (i:=6) mQ.nd rfl (Or.inl rfl)) (FC (GE (NP PySem.F.plainAttrs_list PySem.F.slot_list_append PySem.F.type_list_append IN (eC 5) (iC (NG (iC (eC 6) (iC yC (iC (Uc (dD hr) (eC 1) (DD Cj (hr.mono (by decide)) GC (iC (eC 4) (iC (eC 6) rC))) (BD ZQ (gI (iC yC rC)) (eC 3)) ⟨rfl,rfl,rfl,rfl⟩) rC)))) rC)))))
   (FC (hE (pE (cL (n:=4) (i5 hr)) (HD (eC 0) T.Ac Fp (hr.mono (by decide)) GC (iC (eC 4) rC)) (eC 5) (wC _)) (FC (uD zM)) kE)))))
   (FC (uD zM))),?_⟩
  unfold yH;rfl';refine⟨⋯,⋯,nR (λi σ H'=>∃v4 v5 v6,σ=[some (.ref r.p),some (.ref rd),some (.int (tks.length:Int)),some (.int (pw g)),v4,v5,v6]/\uC H H') ⟨_,_,_,rfl,LD⟩ (λi σ H' hi=>?_) (λσ H'=>?_)⟩
  ·rintro⟨v4,v5,v6,rfl,s1⟩;have hn:=htm i ⋯;generalize hni:0+(i:Int)=n at *;have hB1:=hB.same s1;rfl';intro D hD;obtain⟨s2,g2⟩:=ZE (o:=.lst []) hD;have hB2:=hB1.same s2;generalize jC H' D (.lst [])=H2 at *;refine nR (λj σ G=>∃v6 us,σ=[some (.ref r.p),some (.ref rd),some (.int (tks.length:Int)),some (.int (pw g)),some (.int n),some (.ref D),v6]/\Kd D H2 G/\G D=some (.lst us)/\Paired (λv p=>∃a c,v=.ref a/\G a=some (.tup [.int p.1,.int 3,.ref c])/\G c=some (.lst (p.2.map V.int))/\c≠D) us ((List.range j).map λ(k:Nat)=>((k:Int),iF rs g (k2 (CD n k).1 (CD n k).2)))) ⟨_,[],rfl,λο ο h ο=>h,g2,.nil⟩ (λj σ G hj=>?_) (λσ G=>?_)
   ·rintro⟨v6,us,rfl,k3,hD3,hP⟩;have hul:=Paired.length hP;rw[cA,ZB] at hul;have hrD:rd≠D:=λz=>by rw[z] at hB1;rw[hB1.hd] at hD;cases hD
    have hrdG:=k3 _ _ hB2.hd hrD;rfl';refine⟨.inl ⟨rfl,_,QC.of hD3⟩,.inr ⟨_,.inl hrdG⟩,n,0+(j:Int),rfl,λka G1 s4 hka hkey p1 hp1=>?_⟩;obtain⟨s5,g5⟩:=ZE (o:=.lst [V.int 0]) hp1;generalize jC G1 p1 (.lst [V.int 0])=G2 at *;refine⟨p1,pw g,[V.int 0],rfl,rfl,g5,⋯,⋯,by show 1 * (pw g).toNat<=PySem.sizeLine;omega,λa1 ha1=>?_⟩;obtain⟨s6,g6⟩:=ZE (o:=.lst (List.replicate (pw g).toNat [V.int 0]).flatten) ha1;rw[X9] at g6 s6 ⊢;generalize jC G2 a1 (.lst ((List.replicate (pw g).toNat (0:Int)).map V.int))=G3 at *;have s46:=s4.trans (s5.trans s6);rw[Int.zero_add] at hkey ⊢;have hc:∃c,(gC (iE rs) (k2 (CD n j).1 (CD n j).2)).getD (V.ref a1)=V.ref c/\G3 c=some (.lst ((iF rs g (k2 (CD n j).1 (CD n j).2)).map V.int))/\c≠D:=by
     unfold iF;cases e1:rs.find? λx=>decide (x.q=k2 (CD n j).1 (CD n j).2) with
     |some w=>
      have h1:=sB e1;have h1:w.q=k2 (CD n j).1 (CD n j).2:=UA h1;have hw:=WA e1;have hwD:w.a≠D:=λz=>by have h9:=hB1.rx w hw;rw[z,hD] at h9;cases h9
      refine⟨w.a,by rw[<-h1,jM hB.rk hw];rfl,s46 _ _ (k3 _ _ (hB2.rx w hw) hwD),hwD⟩
     |none=>
      refine⟨a1,by rw[y9 λx hx z=>absurd (nA z) (kB.mp e1 _ hx)];rfl,g6,λz=>?_⟩;rw[z,s5 _ _ (s4 _ _ hD3)] at ha1;cases ha1
    obtain⟨c,c1,c2,c3⟩:=hc;refine⟨_,.inr ⟨iE rs,k2 (CD n j).1 (CD n j).2,ka,.inl (s46 _ _ hrdG),rfl,s6 _ _ (s5 _ _ hkey),rfl⟩,λp2 hp2=>?_⟩;rw[c1];obtain⟨s7,g7⟩:=ZE (o:=.tup [V.int (j:Int),V.int 3,V.ref c]) hp2;generalize jC G3 p2 (.tup [V.int (j:Int),V.int 3,V.ref c])=G4 at *;have sA:=s46.trans s7;have hD4:=sA _ _ hD3;refine⟨us,hD4,⋯,λe o h n1=>by rw[vC n1];exact sA _ _ (k3 _ _ h n1),_,rfl,?_⟩;rw[List.range_succ,gA];refine DO (VI hP λv p ⟨a,c',e1,e2,e3,e4⟩=>⟨a,e1,c',by rw[vC (LC e2 hD3 (λz=>nomatch z))];exact sA _ _ e2,by rw[vC e4];exact sA _ _ e3,e4⟩) (.cons ⟨p2,rfl,c,by rw[vC (LC g7 hD4 (λz=>nomatch z))];exact g7,by rw[vC c3];exact s7 _ _ c2,c3⟩ .nil)
   ·rintro⟨v6,us,rfl,k3,hD3,hP⟩;have sG:uC H' G:=λc o h=>k3 _ _ (s2 _ _ h) (λz=>by rw[z,hD] at h;cases h);have hBG:=hB1.same sG;obtain⟨t,ht,t1⟩:=bA.mp hn;obtain⟨dx,h1⟩:=hBG.rh.s.me;have hts:=hB.ts t ht;rfl';refine⟨dx,_,h1,QE ∅,B,r,z,l,f',g,tks,_,made,S,es,n,t,λp=>iF rs g (k2 (CD n p.1).1 (CD n p.1).2),rfl,hBG.rh,hB.pc,ht,t1,by rw[hts];decide,by rw[hts];decide,λp hp=>?_,λb us' H5 s5 hb hb5 hP5=>?_⟩
    ·rw[hts] at hp;obtain⟨⟨x0,x1⟩,_,ptie⟩:=VO p hp;obtain⟨_,_,e,he,_,_,_,_,_,hkn,_,_,⟨c1,c2⟩,_⟩:=hB.ask (b:=0) hn x0 x1 (Int.le_refl _) ⋯ h13 hu;have hr:=hB.rowq he (CD n p.1).2;rw[hkn] at hr;by_cases c:p.1 < 10
     ·rw[iA c] at ptie;have hl:lH n p=(false,n,p.1):=by unfold lH;rw[ptie]
      have hk:(CD n p.1).2=p.1:=by unfold CD;rw[fA ⋯]
      exact⟨e,he,by rw[hl];exact (c1 c).1,by rw[hl];exact (c1 c).2,by rw[hl];exact hr.trans (by rw[hk])⟩
     ·rw[fA c] at ptie;have hl:lH n p=(true,0,p.1 - 10):=by unfold lH;rw[ptie]
      have hk:(CD n p.1).2=p.1 - 10:=by unfold CD;rw[iA ⋯]
      exact⟨e,he,by rw[hl];exact (c2 ⋯).1,by rw[hl];exact (c2 ⋯).2,by rw[hl];exact hr.trans (by rw[hk])⟩
    ·rw[hts] at hP5;have hQ:=W9 (S:=wU H5) (f:=λp:Pg=>(p.1,iF rs g (k2 (CD n p.1).1 (CD n p.1).2))) hP5 λv p hp ⟨a,c,e1,e2,e3,_⟩=>⟨a,c,e1,by rw[(VO p hp).2.1] at e2;exact e2,e3⟩
     have hps:(WF lM).map (λp:Pg=>(p.1,iF rs g (k2 (CD n p.1).1 (CD n p.1).2)))=(List.range 13).map λ(k:Nat)=>((k:Int),iF rs g (k2 (CD n k).1 (CD n k).2)):=by
      have:=congrArg (List.map λx:Int=>(x,iF rs g (k2 (CD n x).1 (CD n x).2))) yU;rw[lA,lA] at this;exact this
     rw[hps] at hQ;have hP:Paired (wU H5) us ((List.range 13).map λ(k:Nat)=>((k:Int),iF rs g (k2 (CD n k).1 (CD n k).2))):=VI hP λv p ⟨a,c,e1,e2,e3,_⟩=>⟨a,c,e1,s5 _ _ e2,s5 _ _ e3⟩
     obtain⟨d1,d2,d3⟩:=V9 ((List.range 13).map λ(k:Nat)=>((k:Int),iF rs g (k2 (CD n k).1 (CD n k).2)));refine⟨false,_,_,?_,?_,d1,⋯,?_⟩
     ·unfold yD;exact⟨b,_,rfl,by rw[fA wA];exact QC.of hb5,xU hQ⟩
     ·unfold yD;exact⟨D,_,rfl,by rw[fA wA];exact QC.of (s5 _ _ hD3),xU hP⟩
     ·rw[d2];exact⟨_,rfl,wD (s1.trans (sG.trans s5))⟩
  ·rintro⟨v4,v5,v6,rfl,s1⟩;rfl';exact q _ s1
section
variable {G0 B H H':Hp} {r:Ro} {z:Hz} {l f g:Int} {tks:List Tk} {made made':Int} {S S':List Sh} {es es':List Ho} {rs:List Rw} {rd td:Addr} {kvs kvs':List (List Key×V)} {τ τ':Int->Int} {u:Int}
theorem zU {es0:List Ho} {S0:List Sh} {kv:List (List Key×V)} {dn:List (Int×Int)} (h:Fo g S0 es0 S es kv dn) (nn:(es0.map kn).Nodup) {e0:Ho} (h0:e0∈es0):∃e∈es,e.k=e0.k/\e.n=e0.n/\e.m.length<=e0.m.length/\∀y,BC g S e y=BC g S0 e0 y/\(mC e y=none↔mC e0 y=none)/\((e.k=true\/(e.n,y)∉dn)->mC e y=mC e0 y):=by
 have:(e0.k,e0.n,e0.d)∈es.map λe=>(e.k,e.n,e.d):=by rw[h.ho];exact bA.mpr ⟨e0,h0,rfl⟩
 obtain⟨e,he,e1⟩:=bA.mp this;have k1:e.k=e0.k:=congrArg (λz=>z.1) e1;have k2:e.n=e0.n:=congrArg (λz=>z.2.1) e1;obtain⟨e9,h9,a1,a2,a3⟩:=h.pg e he;obtain rfl:=cE nn h9 h0 (mH (a1.trans k1) (a2.trans k2));exact⟨e,he,k1,k2,a3⟩
theorem PM {e:Ho} (h:(e.k=true/\e.n=0)\/(e.k=false/\(e.n=0\/e.n=1))) {y:Int}:bq (k2 (kn e) y)↔e.k=true:=by
 unfold kn;constructor
 ·rintro⟨y',z⟩;rcases h with h|h
  ·exact h.1
  ·rw[h.1] at z;have:=(EE z).1;have:e.n=2:=this;omega
 ·intro z;rw[z];exact⟨y,rfl⟩
theorem Bk.one (h:Bk A G0 B H r z l f g tks made S es rs rd td kvs τ u) {q:List Key} {k k':Int} (h1:Nb es q k) (h2:Nb es q k'):k=k':=by
 obtain⟨e,he,y,hy,e1,rfl⟩:=h1;obtain⟨e',he',y',hy',e1',rfl⟩:=h2;obtain⟨a,b⟩:=EE (e1.symm.trans e1');obtain rfl:=cE h.nn he he' a;rw[cE (h.rh.ux e he) hy hy' b]
theorem Bk.row (h:Bk A G0 B H r z l f g tks made S es rs rd td kvs τ u) {e:Ho} {y k:Int} (he:e∈es) (hy:mC e y=some k):ZI rs (k2 (kn e) y)=BC g S e y:=by
 obtain⟨x,hx,e1⟩:=h.rc _ k ⟨e,he,_,(OD (h.rh.ux e he)).mp hy,rfl,rfl⟩;obtain⟨e0,h0,y0,a1,a2⟩:=h.rl x hx;obtain⟨b1,b2⟩:=EE (a1.symm.trans e1);rw[<-e1,uU h.rk hx,a2,b2,cE h.nn h0 he b1]
theorem Bk.folded {kv ks:List (List Key×V)} {dn:List (Int×Int)} {G:List Int} (h:Bk A G0 B H r z l f g tks made S es rs rd td kvs τ u) (hF:Fo g S es S' es' kv dn) (hdn:∀e∈es',e.k=false->∀x,mC e x≠none->(e.n,x)∈dn) (hR:RH A B H' r z l f g tks [(Sum.inl 0,.int 3)] made S' es') (hl:Fl (ZI rs) kvs ks) (nd:G.Nodup) (hg:∀t,t∈G↔∃q,¬bq q/\gC kvs q=some (V.int t)/\gC ks q≠some (V.int t)) (hs:H' td=some (.dT ks)) (kp:∀c o,H c=some o->B c≠none->c≠td->H' c=some o):
  S.length=S'.length+G.length/\(∀q,(∃k,Nb es q k)↔∃k,Nb es' q k)/\∃τ',Bk A G0 B H' r z l f g tks made S' es' rs rd td ks τ' (u+1):=by
 have ek':∀e∈es',(e.k=true/\e.n=0)\/(e.k=false/\(e.n=0\/e.n=1)):=λe he=>by
  obtain⟨e0,h0,a1,a2,_⟩:=hF.pg e he;rw[<-a1,<-a2];exact h.ek e0 h0
 have nn':(es'.map kn).Nodup:=by
  have e1:es'.map kn=es.map kn:=by
   have:=congrArg (List.map λx:Bool×Int×Addr=>if x.1 then (2:Int) else x.2.1) hF.ho;rw[lA,lA] at this;exact this
  rw[e1];exact h.nn
 have nb':∀{e y k},e∈es'->mC e y=some k->Nb es' (k2 (kn e) y) k:=λ{e y k} he hy=>⟨e,he,_,(OD (hR.ux e he)).mp hy,rfl,rfl⟩
 have nb0:∀{e y k},e∈es->mC e y=some k->Nb es (k2 (kn e) y) k:=λ{e y k} he hy=>⟨e,he,_,(OD (h.rh.ux e he)).mp hy,rfl,rfl⟩
 have un':∀{q k},Nb es' q k->∃e∈es',∃y,q=k2 (kn e) y/\mC e y=some k:=λ{q k} ⟨e,he,y,hy,e1,e2⟩=>⟨e,he,y.1,e1,by rw[e2];exact (OD (hR.ux e he)).mpr hy⟩
 have un0:∀{q k},Nb es q k->∃e∈es,∃y,q=k2 (kn e) y/\mC e y=some k:=λ{q k} ⟨e,he,y,hy,e1,e2⟩=>⟨e,he,y.1,e1,by rw[e2];exact (OD (h.rh.ux e he)).mpr hy⟩
 have one':∀q k k',Nb es' q k->Nb es' q k'->k=k':=λq k k' h1 h2=>by
  obtain⟨e,he,y,hy,e1,rfl⟩:=h1;obtain⟨e',he',y',hy',e1',rfl⟩:=h2;obtain⟨a,b⟩:=EE (e1.symm.trans e1');obtain rfl:=cE nn' he he' a;rw[cE (hR.ux e he) hy hy' b]
 have dom:∀q,(∃k,Nb es q k)↔∃k,Nb es' q k:=λq=>by
  constructor
  ·rintro⟨k,hk⟩;obtain⟨e0,h0,y,rfl,hy⟩:=un0 hk;obtain⟨e,he,a1,a2,_,a4⟩:=zU hF h.nn h0;cases e1:mC e y with
   |none=>rw[(a4 y).2.1.mp e1] at hy;cases hy
   |some k'=>exact⟨k',by rw[<-mH a1 a2];exact nb' he e1⟩
  ·rintro⟨k,hk⟩;obtain⟨e,he,y,rfl,hy⟩:=un' hk;obtain⟨e0,h0,a1,a2,_,a4⟩:=hF.pg e he;cases e1:mC e0 y with
   |none=>rw[(a4 y).2.1.mpr e1] at hy;cases hy
   |some k'=>exact⟨k',by rw[<-mH a1 a2];exact nb0 h0 e1⟩
 have row':∀{e y k},e∈es'->mC e y=some k->ZI rs (k2 (kn e) y)=BC g S' e y:=λ{e y k} he hy=>by
  obtain⟨e0,h0,a1,a2,_,a4⟩:=hF.pg e he;cases e1:mC e0 y with
  |none=>rw[(a4 y).2.1.mpr e1] at hy;cases hy
  |some k'=>rw[(a4 y).1,<-mH a1 a2];exact h.row h0 e1
 have byn:∀{S:List Sh} {es:List Ho},PC S es->(S.map Sh.n).Nodup->(∀e∈es,(e.m.map (·.1)).Nodup)->∀{e e' y y' k},e∈es->e'∈es->mC e y=some k->mC e' y'=some k->BC g S e y=BC g S e' y':=λ{S es} hp sn ux {e e' y y' k} he he' h1 h2=>by
  obtain⟨s,hs,e1⟩:=hp.liv e he _ ((OD (ux e he)).mp h1);have e1:s.n=k:=e1;subst e1;rw[XI sn hs h1,XI sn hs h2]
 have hFd:Fd es es' (ZI rs):=by
  refine⟨one',dom,λq1 q2 k1 k2' b1 b2 h1 h2=>?_,λq k b=>?_,λq k b hk=>?_⟩
  ·obtain⟨e1,m1,y1,rfl,n1⟩:=un' h1;obtain⟨e2,m2,y2,rfl,n2⟩:=un' h2;have p1:e1.k=false:=by cases c:e1.k with|false=>rfl|true=>exact absurd ((PM (ek' e1 m1)).mpr c) b1
   have p2:e2.k=false:=by cases c:e2.k with|false=>rfl|true=>exact absurd ((PM (ek' e2 m2)).mpr c) b2
   rw[row' m1 n1,row' m2 n2];constructor
   ·rintro rfl;exact byn hF.pc hR.s.nn hR.ux m1 m2 n1 n2
   ·intro z;have v1:=hF.kd e1 m1 p1 y1 k1 (hdn e1 m1 p1 y1 (by rw[n1];exact λz=>nomatch z)) n1;have v2:=hF.kd e2 m2 p2 y2 k2' (hdn e2 m2 p2 y2 (by rw[n2];exact λz=>nomatch z)) n2;rw[z,v2] at v1;exact (V.int.inj (rA v1)).symm
  ·constructor
   ·intro hk;obtain⟨e,he,y,rfl,hy⟩:=un' hk;obtain⟨e0,h0,a1,a2,_,a4⟩:=hF.pg e he;rw[(a4 y).2.2 (.inl ((PM (ek' e he)).mp b))] at hy;rw[<-mH a1 a2];exact nb0 h0 hy
   ·intro hk;obtain⟨e0,h0,y,rfl,hy⟩:=un0 hk;obtain⟨e,he,a1,a2,_,a4⟩:=zU hF h.nn h0;rw[<-(a4 y).2.2 (.inl (a1.trans ((PM (h.ek e0 h0)).mp b)))] at hy;rw[<-mH a1 a2];exact nb' he hy
  ·obtain⟨e,he,y,rfl,hy⟩:=un' hk;have p1:e.k=false:=by cases c:e.k with|false=>rfl|true=>exact absurd ((PM (ek' e he)).mpr c) b
   obtain⟨e0,h0,p0,y0,hy0⟩:=hF.ol e he p1 y k hy;exact⟨_,(λz=>by rw[(PM (h.ek e0 h0)).mp z] at p0;cases p0),nb0 h0 hy0⟩
 obtain⟨τ',hT⟩:=h.tn.folded h.pc hF.pc h.bo.sep hFd hl;have hT1:Tn S' es' ks τ' (u+1):=hT.on λs hs=>⟨s,hs,rfl⟩
 refine⟨h.tn.gone hT h.pc hF.pc h.rh.s.nn hR.s.nn h.bo.sep (λq q' k h1 h2=>?_) hl nd hg,dom,τ',hR,hF.pc,hT1,λq q' k b h1 h2=>?_,λc y k hk hc=>?_,ek',nn',?_,h.ts,h.tk,kp _ _ h.hd h.ow.1 h.ne,λx hx=>kp _ _ (h.rx x hx) (h.ow.2.2 x hx) (LC (h.rx x hx) h.sh (λz=>nomatch z)),h.rk,h.ra,λx hx=>?_,λq k hk=>?_,hs,?_,λe he=>?_,h.ow,h.ne,λc o hc=>?_⟩
 ·obtain⟨e,he,y,rfl,hy⟩:=un0 h1;obtain⟨e',he',y',rfl,hy'⟩:=un0 h2;rw[h.row he hy,h.row he' hy'];exact byn h.pc h.rh.s.nn h.rh.ux he he' hy hy'
 ·have g1:=(hFd.bn q k b).mp h1;by_cases b':bq q'
  ·exact h.bo q q' k b g1 ((hFd.bn q' k b').mp h2)
  ·obtain⟨q2,b2,g2⟩:=hFd.old q' k b' h2;exact absurd (by rw[h.bo q q2 k b g1 g2];exact b) b2
 ·obtain⟨k',hk'⟩:=(dom _).mpr ⟨k,hk⟩;exact h.pr c y k' hk' hc
 ·have:=congrArg List.length hF.ho;rw[cA,cA] at this;rw[this];exact h.el
 ·obtain⟨e0,h0,y,a1,a2⟩:=h.rl x hx;obtain⟨e,he,b1,b2,_,b4⟩:=zU hF h.nn h0;exact⟨e,he,y,by rw[a1,mH b1 b2],by rw[a2,(b4 y).1]⟩
 ·obtain⟨k',hk'⟩:=(dom _).mpr ⟨k,hk⟩;exact h.rc q k' hk'
 ·have:=h.sl;have:=hF.sl;omega
 ·obtain⟨e0,h0,_,_,a3,_⟩:=hF.pg e he;have:=h.ml e0 h0;omega
 ·obtain⟨c1,c2,c3,c4,c5⟩:=h.k0 c o hc;exact⟨kp c o c1 c2 c4,c2,c3,c4,c5⟩
end
section
variable {G0 B H H':Hp} {r:Ro} {z:Hz} {l f g:Int} {tks:List Tk} {made made':Int} {S S':List Sh} {es es':List Ho} {rs:List Rw} {rd td:Addr} {kvs kvs':List (List Key×V)} {τ τ':Int->Int} {u:Int}
theorem Z9 {Q':VK} {E1 E2 E3:XK} (hB:Bk A G0 B H r z l f g tks made S es rs rd td kvs τ u) (hN:∀w∈rs,∃k,Nb es w.q k) (hu:u<=60) (q:∀S' es' ks τ' H',Bk A G0 B H' r z l f g tks made S' es' rs rd td ks τ' (u+1)->(∀w∈rs,∃k,Nb es' w.q k)->Q' (.bl true) H'):f9 A [V.ref r.p] H (λx H1=>sp_lfd [V.ref rd,V.ref td] H1 (λx2 H2=>sp_whole [x,x2] H2 Q' E1) E2) E3:=by
 have hrn:=hB.rn hN;have hkl:=hB.kl ⋯;have htl:tks.length<=2:=by
  rcases hB.tk with h|h<;>have:=congrArg List.length h<;>rw[cA] at this<;>simp at this<;>omega
 have sl:=hB.sl;refine⟨B,r,z,l,f,g,tks,_,made,S,es,rfl,hB.rh,hB.pc,⋯,(λe he=>by have:=hB.ml e he;omega),⋯,λS' es' kv dn H2 hR2 hF hdn fr=>?_⟩;have kk2:∀{c o},H c=some o->B c≠none->H2 c=some o:=λh nc=>fr _ _ h (hB.rh.nb nc);have rl2:∀x∈rs,∃k,gC kvs x.q=some (V.int (τ k))/\Nb es x.q k:=λx hx=>by
  obtain⟨k,hk⟩:=hN x hx;exact⟨k,hB.tn.nb.mpr ⟨k,hk,rfl⟩,hk⟩
 refine⟨rd,td,rs,kvs,rfl,hB.ne,kk2 hB.hd hB.ow.1,λx hx=>kk2 (hB.rx x hx) (hB.ow.2.2 x hx),hB.rk,⋯,kk2 hB.sh hB.ow.2.1,hB.tn.nk,⋯,λx hx=>?_,λq=>?_,λq v hv=>?_,λx hx y hy ο ο e=>?_,λks G H3 hs3 k3 hFl nd hg=>?_⟩
 ·obtain⟨e,he,y,e1,_⟩:=hB.rl x hx;refine⟨_,y,e1,?_⟩;unfold kn;rcases hB.ek e he with h|h
  ·rw[h.1];exact Int.le_refl _
  ·rw[h.1];show e.n<=2;omega
 ·constructor
  ·rintro⟨v,hv⟩;obtain⟨k,hk,_⟩:=hB.tn.nb.mp hv;exact hB.rc q k hk
  ·rintro⟨x,hx,rfl⟩;obtain⟨k,hk,_⟩:=rl2 x hx;exact⟨_,hk⟩
 ·obtain⟨k,_,e⟩:=hB.tn.nb.mp hv;exact⟨_,e⟩
 ·obtain⟨k,a1,b1⟩:=rl2 x hx;obtain⟨k',a2,b2⟩:=rl2 y hy;rw[a1,a2] at e;have e9:=hB.tn.same hB.pc b1 b2 (V.int.inj (rA e));subst e9;obtain⟨e1,m1,y1,c1,d1⟩:=hB.rl x hx;obtain⟨e2,m2,y2,c2,d2⟩:=hB.rl y hy;have nE:∀{e:Ho} {q:List Key} {y:Int},e∈es->q=k2 (kn e) y->Nb es q k->mC e y=some k:=λ{e q y} he hq ⟨e',he',y',hy',e3,e4⟩=>by
   obtain⟨z1,z2⟩:=EE (hq.symm.trans e3);obtain rfl:=cE hB.nn he he' z1;rw[z2,e4];exact (OD (hB.rh.ux e he)).mpr hy'
  have n1:=nE m1 c1 b1;have n2:=nE m2 c2 b2;obtain⟨s,hs,e5⟩:=hB.pc.nb b1;subst e5;rw[d1,d2,XI hB.rh.s.nn hs n1,XI hB.rh.s.nn hs n2]
 ·have hR3:=hR2.kd (kk2 hB.sh hB.ow.2.1) (hR2.nb hB.ow.2.1) (.inr (.inl ⟨_,rfl⟩)) k3 hs3;obtain⟨hlen,dom,τ',hB3⟩:=hB.folded hF hdn hR3 hFl nd hg hs3 (λc o h n1 n2=>k3 _ _ (kk2 h n1) n2);refine⟨_,_,rfl,?_⟩;rw[nA (show (S.length:Int) - S'.length=G.length by omega)];exact q _ _ _ _ H3 hB3 λw hw=>(dom _).mp (hN w hw)
theorem Bk.addr {e:Ho} {y:Int} {a:Addr} (h:Bk A G0 B H r z l f g tks made S es rs rd td kvs τ u) (he:e∈es) (hq:∀x∈rs,x.q≠k2 (kn e) y) (ha:H a=none) (hR:RH A B H' r z l f g tks [(Sum.inl 0,.int 3)] made S es) (ha':H' a=some (.lst ((List.replicate (pw g).toNat (0:Int)).map V.int))) (hd':H' rd=some (.dT (iE rs++[(k2 (kn e) y,V.ref a)]))) (kp:∀c o,H c=some o->c≠rd->H' c=some o):
  ∃B',Bk A G0 B' H' r z l f g tks made S es (rs++[⟨k2 (kn e) y,a,List.replicate (pw g).toNat 0⟩]) rd td kvs τ u:=by
 obtain⟨B',hR',hB'⟩:=hR.rebase;have b':∀{c o},B c≠none->H' c=some o->B' c≠none:=λnc h9=>by rw[hB' _ (hR.nb nc),h9];exact λz=>nomatch z
 have hr:BC g S e y=List.replicate (pw g).toNat 0:=by
  unfold BC;cases e0:mC e y with
  |none=>rfl
  |some k=>
   obtain⟨x,hx,e1⟩:=h.rc _ k ⟨e,he,_,(OD (h.rh.ux e he)).mp e0,rfl,rfl⟩;exact absurd e1 (hq x hx)
 have hx':∀x∈rs,H' x.a=some (.lst (x.xs.map V.int)):=λx hx=>kp _ _ (h.rx x hx) (LC (h.rx x hx) h.hd (λz=>nomatch z));have hs':=kp _ _ h.sh h.ne.symm;refine⟨B',hR',h.pc,h.tn,h.bo,h.pr,h.ek,h.nn,h.el,h.ts,h.tk,by unfold iE;rw[gA];exact hd',λx hx=>?_,?_,?_,λx hx=>?_,λq k hk=>?_,hs',h.sl,h.ml,⟨b' h.ow.1 hd',b' h.ow.2.1 hs',λx hx=>?_⟩,h.ne,λc o hc=>?_⟩
 ·rcases dA.mp hx with q|q
  ·exact hx' x q
  ·rw[aA.mp q];exact ha'
 ·rw[gA];exact zA.mpr ⟨h.rk,by simp,λa1 h1 b1 h2 z=>by
   obtain⟨x,hx,rfl⟩:=bA.mp h1;rw[aA.mp h2] at z;exact hq x hx z⟩
 ·rw[gA];exact zA.mpr ⟨h.ra,by simp,λa1 h1 b1 h2 z=>by
   obtain⟨x,hx,rfl⟩:=bA.mp h1;rw[aA.mp h2] at z;have z:x.a=a:=z;have h9:=h.rx x hx;rw[z,ha] at h9;cases h9⟩
 ·rcases dA.mp hx with q|q
  ·exact h.rl x q
  ·rw[aA.mp q];exact⟨e,he,y,rfl,hr.symm⟩
 ·obtain⟨x,hx,e1⟩:=h.rc q k hk;exact⟨x,pA _ hx,e1⟩
 ·rcases dA.mp hx with q|q
  ·exact b' (h.ow.2.2 x q) (hx' x q)
  ·rw[aA.mp q];show B' a≠none;rw[hB' a (h.rh.ex ha),ha'];exact λz=>nomatch z
 ·obtain⟨c1,c2,c3,c4,c5⟩:=h.k0 c o hc;have c6:=kp c o c1 c3;refine⟨c6,b' c2 c6,c3,c4,λx hx=>?_⟩;rcases dA.mp hx with q|q
  ·exact c5 x q
  ·rw[aA.mp q];exact λz=>by
    have z:c=a:=z;rw[z,ha] at c1;cases c1
end
inductive aa (A:RC) (vs:List V) (H:Hp) (Q:VK) (E:XK):Prop where
 |mk (G0 B:Hp) (r:Ro) (z:Hz) (l f g:Int) (tks:List Tk) (made:Int) (S:List Sh) (es:List Ho) (rs:List Rw) (rd td:Addr) (kvs:List (List Key×V)) (τ:Int->Int) (u c:Int) (wa:Addr) (a0 a1 a2:Int) (_:vs=[.ref r.p,.ref rd,.ref td,.int (tks.length:Int),.int c,.int u,.ref wa]) (_:Bk A G0 B H r z l f g tks made S es rs rd td kvs τ u) (_:(∀w∈rs,∃k,Nb es w.q k)) (_:G0 wa=some (.lst [.int a0,.int a1,.int a2,.int (pw g)])) (_:0<=u) (_:u<=60) (_:r.most=64) (_:13<=pw (l * f)) (_:∀B' made' S' es' rs' kvs' τ' H',Bk A G0 B' H' r z l f g tks made' S' es' rs' rd td kvs' τ' (u+1)->(∀w∈rs',∃k,Nb es' w.q k)->Q (.bl true) H'):aa A vs H Q E
def qM (A:RC):Sp:=aa A
theorem WO (T:fD K mg A):TD P w K mg base "_law_turn" 12 ["_law_rooms","_law_rows","_law_sheets","_law_tasks","_law_cell","_law_turn_here","_law_worth"] [] (qM A):=by
 have Cj:=@vU P w K mg base A T;have By:=@fM P w K mg base A T;have Bg:=@nU P w K mg base A T;have Bz:=@nK P w K mg base A T;have Cq:=@qK P w K mg base A T;have Js:=@nM P w K mg base A T;refine T.Kj.have NJ (λvs H Q E z=>?_) ?_
 ·obtain⟨G0,B,r,z,l,f,g,tks,made,S,es,rs,rd,td,kvs,τ,u,c,wa,a0,a1,a2,rfl,_⟩:=z;rfl
 ·intro f cdv A' outer s H vs Q E hr z;obtain⟨G0,B,r,z,l,f',g,tks,made,S,es,rs,rd,td,kvs,τ,u,c,wa,a0,a1,a2,rfl,hB,hN,hwa,hu0,hu,hmo,h13,q⟩:=z;have hrn:=hB.rn hN;have hkl:=hB.kl ⋯;have hz:=PySem.sizeLine_eq;have hg:=oI hB.rh.gd;refine⟨_,(CC (iD (i:=7) NJ.nd rfl (Or.inl rfl) (DD By (hr.mono (by decide)) GC (iC (eC 4) (iC yC (iC yC rC)))))
   (CC (hE (pE EI (eC 7) yC (wC _)) (FC (uD (DD Bg (hr.mono (by decide)) GC (iC (mI (eC 0) T.Ac Bz (hr.mono (by decide)) GC) (iC (DD Cq (hr.mono (by decide)) GC (iC (eC 1) (iC (eC 2) rC))) rC))))) kE)
   (CC (iD (i:=8) NJ.nd rfl (Or.inl rfl) (DD By (hr.mono (by decide)) GC (iC (eC 4) (iC yC (iC (eC 3) rC)))))
   (CC (iD (i:=9) NJ.nd rfl (Or.inl rfl) (DD By (hr.mono (by decide)) GC (iC (eC 4) (iC yC (iC yC rC)))))
   (CC (iD (i:=10) NJ.nd rfl (Or.inl rfl) (DD Cj (hr.mono (by decide)) GC (iC (eC 8) (iC (eC 9) rC))))
   (LI (GE (KR (dD hr) (eC 1) (eC 10) (BD ZQ (gI (iC yC rC)) (GD jI (eC 6) yC (λο ο=>rfl))) ⟨rfl,rfl,rfl,rfl⟩))
   (CC (iD (i:=11) NJ.nd rfl (Or.inl rfl) (DD By (hr.mono (by decide)) GC (iC (eC 4) (iC yC (iC (GD jI (eC 6) yC (λο ο=>rfl)) rC)))))
   (CC (iD (i:=12) NJ.nd rfl (Or.inl rfl) ZF)
   (LI (hE (pE IK (eC 7) yC (wC _)) (FC (iD (i:=12) NJ.nd rfl (Or.inl rfl) (GD jI (eC 6) (BD eI (DD By (hr.mono (by decide)) GC (iC (eC 4) (iC yC (iC yC rC)))) yC) (λο ο=>rfl)))) kE)
   (FC (uD (DD Js (hr.mono (by decide)) GC (@iC _ _ _ _ _ (eC 0) (@iC _ _ _ _ _ (eC 1) (@iC _ _ _ _ _ (eC 2) (@iC _ _ _ _ _ (NG (iC (eC 8) (iC (eC 9) (iC (eC 11) rC)))) (@iC _ _ _ _ _ (eC 12) (@iC _ _ _ _ _ (eC 5) rC rfl) rfl) rfl) rfl) rfl) rfl))))))))))))),?_⟩
  unfold UF;rfl';refine⟨c,0,6,rfl,by decide,by decide,by decide,λway H1 hw0 hw1 s1=>?_⟩;have hB:=hB.same s1;rfl';by_cases w0:way=0
  ·rw[iA w0];obtain⟨dx,h1⟩:=hB.rh.s.me;exact⟨dx,_,h1,QE ∅,Z9 hB hN ⋯ λS' es' ks τ' H3 hB3 hN3=>q _ _ _ _ _ _ _ H3 hB3 hN3⟩
  ·rw[fA w0];have htl:0 < tks.length:=by
    rcases hB.tk with h|h<;>have:=congrArg List.length h<;>rw[cA] at this<;>simp at this<;>omega
   refine⟨c,1,tks.length,rfl,by decide,by decide,⋯,λn H2 hn0 hn1 s2=>⟨c,2,13,rfl,by decide,by decide,by decide,λx H3 hx0 hx1 s3=>⟨n,x,rfl,λkp H4 s4 hkp hkey=>?_⟩⟩⟩;have hnm:n∈tks.map Tk.n:=by
    rcases hB.tk with h|h<;>have e:=congrArg List.length h<;>rw[cA] at e<;>simp at e<;>rw[h]<;>simp<;>omega
   have hB:=hB.same (s2.trans (s3.trans s4));obtain⟨t,ht,e,he,_,_,_,_,_,hkn,_⟩:=hB.ask (b:=0) hnm hx0 hx1 (Int.le_refl _) ⋯ h13 ⋯;have hwaH:∀{B' H' rs'},Bk A G0 B' H' r z l f' g tks made S es rs' rd td kvs τ u->H' wa=some (.lst [.int a0,.int a1,.int a2,.int (pw g)]):=λh=>(h.k0 wa _ hwa).1;refine⟨λσ G=>σ=[some (.ref r.p),some (.ref rd),some (.ref td),some (.int (tks.length:Int)),some (.int c),some (.int u),some (.ref wa),some (.int way),some (.int n),some (.int x),some (.ref kp),none,none]/\∃B' rs',Bk A G0 B' G r z l f' g tks made S es rs' rd td kvs τ u/\(∃w∈rs',w.q=k2 (CD n x).1 (CD n x).2)/\∀w∈rs',w.q=k2 (CD n x).1 (CD n x).2\/∃k,Nb es w.q k,?_,λσ5 H5=>?_⟩
   ·rfl';refine⟨.inr ⟨_,.inl hB.hd⟩,λp1 hp1=>?_⟩;obtain⟨s5,g5⟩:=ZE (o:=.lst [V.int 0]) hp1;have hB5:=hB.same s5;have hkey5:=s5 _ _ hkey;generalize jC H4 p1 (.lst [V.int 0])=H5 at *;refine⟨_,QC.of (hwaH hB5),_,rfl,p1,pw g,[V.int 0],rfl,rfl,g5,⋯,⋯,by show 1 * (pw g).toNat<=PySem.sizeLine;omega,λa9 ha9=>?_⟩;obtain⟨s6,g6⟩:=ZE (o:=.lst (List.replicate (pw g).toNat [V.int 0]).flatten) ha9;rw[X9] at g6 s6 ⊢;have hB6:=hB5.same s6;have hkey6:=s6 _ _ hkey5;generalize jC H5 a9 (.lst ((List.replicate (pw g).toNat (0:Int)).map V.int))=H6 at *;refine⟨iE rs,hB6.hd,k2 (CD n x).1 (CD n x).2,hkey6,by unfold iE;rw[cA];omega,λv hv=>⟨B,rs,hB6,?_,λw hw=>.inr (hN w hw)⟩,λhv=>?_⟩
    ·obtain⟨w,hw,e1⟩:=bA.mp ((nH (kvs:=iE rs) (by rw[tU];exact hB.rk)).mp hv);exact⟨w,hw,congrArg Prod.fst e1⟩
    ·have nq:∀w∈rs,w.q≠k2 (kn e) (CD n x).2:=λw hw z=>by
      rw[hkn] at z;rw[<-z,jM hB.rk hw] at hv;cases hv
     have nar:a9≠rd:=λz=>by rw[z,hB5.hd] at ha9;cases ha9
     rw[sJ _ hv];obtain⟨B',hB7⟩:=hB5.addr (H':=jC H6 rd (.dT (iE rs++[(k2 (CD n x).1 (CD n x).2,V.ref a9)]))) he nq ha9 (hB6.rh.kd hB6.hd (hB6.rh.nb hB6.ow.1) (.inr (.inl ⟨_,rfl⟩)) sE IC) (by rw[vC nar];exact g6) (by rw[IC,hkn]) (λc o h n1=>by rw[vC n1];exact s6 _ _ h);refine⟨B',_,hB7,⟨_,eA _ (aA.mpr rfl),by rw[hkn]⟩,λw hw=>?_⟩;rcases dA.mp hw with h|h
     ·exact .inr (hN w h)
     ·exact .inl (by rw[aA.mp h,hkn])
   rintro⟨rfl,B',rs',hB5,hq5,hN5⟩;rfl';refine⟨_,QC.of (hwaH hB5),_,rfl,c,3,pw g,rfl,by decide,by decide,⋯,λb H6 hb0 hb1 s6=>?_⟩;have hB6:=hB5.same s6;refine⟨λσ G=>∃v:Option Int,σ=[some (.ref r.p),some (.ref rd),some (.ref td),some (.int (tks.length:Int)),some (.int c),some (.int u),some (.ref wa),some (.int way),some (.int n),some (.int x),some (.ref kp),some (.int b),some (vO v)]/\uC H6 G,?_,λσ7 H7=>?_⟩
   ·rfl';refine UK (λο=>⟨c,1,7,rfl,by decide,by decide,by decide,λm H7 hm0 hm1 s7=>?_⟩) (λο=>⟨none,rfl,LD⟩);rfl';have hv:∃v:Int,oG [V.int a0,V.int a1,V.int a2,V.int (pw g)] (m % 3)=some (.int v):=by
     obtain⟨i,hi⟩:∃i:Nat,m % 3=(i:Int):=⟨(m % 3).toNat,⋯⟩
     rw[hi];obtain rfl|rfl|rfl:i=0\/i=1\/i=2:=⋯
     all_goals exact⟨_,FI rfl⟩
    obtain⟨v,hv⟩:=hv;exact⟨_,QC.of (hwaH (hB6.same s7)),_,hv,some v,rfl,s7⟩
   rintro⟨v,rfl,s7⟩;rfl';intro sp hsp;obtain⟨s8,g8⟩:=ZE (o:=.tup [V.int n,V.int x,V.int b]) hsp;have hB8:=hB6.same (s7.trans s8);refine⟨G0,B',r,z,l,f',g,tks,made,S,es,rs',rd,td,kvs,τ,u,n,x,b,v,sp,rfl,hB8,g8,hnm,⟨hx0,hx1⟩,⟨hb0,hb1⟩,hq5,hu0,hu,hmo,h13,λmade' S' es' rs2 kvs' τ' H' hB9 hq9 hn9=>q _ _ _ _ _ _ _ H' hB9 λw hw=>(hn9 _).mpr ?_⟩;have:w.q∈rs'.map Rw.q:=by rw[<-hq9];exact bA.mpr ⟨w,hw,rfl⟩
   obtain⟨w',hw',e1⟩:=bA.mp this;rw[<-e1];exact hN5 w' hw'
theorem li {A:RC} {H:Hp} {x dx:Addr} {l f g most:Int} {Qf:Addr->VK} {E:XK} (hg:gd l f g) (hx:H x=none) (hdx:H dx=none)
  (q:∀(r:Ro) (z:Hz) (H':Hp),r.most=most->uC H H'->RB A H' r z l f g [] []->(∀e∈EF r z [],H e=none)->H r.p=none->(H' r.bd=some (.dK [])/\r.bd∉EF r z []/\H r.bd=none)->Qf r.p .non H'):
  ∀x1 dx1:Addr,jC (jC H dx (.own x)) x (.ins A.Ae dx (cH l f g)) x1=none->jC (jC H dx (.own x)) x (.ins A.Ae dx (cH l f g)) dx1=none->dx1≠x1->
   j8 A [V.ref x1,V.ref x,V.int most] (jC (jC (jC (jC H dx (.own x)) x (.ins A.Ae dx (cH l f g))) dx1 (.own x1)) x1 (.ins A.Ab dx1 [])) (Qf x1) E:=by
 intro x1 dx1 hx1 hdx1 hne;have b1:uC H (jC (jC H dx (.own x)) x (.ins A.Ae dx (cH l f g))):=λc o h=>by rw[vC (bD h hx),vC (bD h hdx)];exact h
 have e1:jC (jC H dx (.own x)) x (.ins A.Ae dx (cH l f g)) x=some (.ins A.Ae dx (cH l f g)):=IC;generalize jC (jC H dx (.own x)) x (.ins A.Ae dx (cH l f g))=G1 at *;have b2:uC G1 (jC (jC G1 dx1 (.own x1)) x1 (.ins A.Ab dx1 [])):=λc o h=>by rw[vC (bD h hx1),vC (bD h hdx1)];exact h
 have e2:jC (jC G1 dx1 (.own x1)) x1 (.ins A.Ab dx1 []) x1=some (.ins A.Ab dx1 []):=IC;generalize jC (jC G1 dx1 (.own x1)) x1 (.ins A.Ab dx1 [])=G2 at *;have b12:=b1.trans b2;refine⟨x1,dx1,x,most,l,f,g,rfl,e2,⟨dx,b2 _ _ e1⟩,hg,λr z H' hr hm hB hf ο k bd9=>?_⟩;have hn:H x1=none:=VF b1 hx1;rw[<-hr];exact q r z H' hm (λc o h=>k _ _ (b12 _ _ h) (bD h hn)) hB (λe he=>VF b12 (hf e he)) (by rw[hr];exact hn) ⟨bd9.1,bd9.2.1,VF b12 bd9.2.2⟩
theorem ba {tks:List Tk} {i k:Nat} (h:tks.map Tk.n=(List.range i).map (λj:Nat=>(j:Int))) (hL:UH (zD (KD tks)) k):k=i:=by
 have e:zD (KD tks)=(List.range i).map (λj:Nat=>(Sum.inl (j:Int):Key)):=by
  have:zD (KD tks)=(tks.map Tk.n).map Sum.inl:=by unfold zD KD;rw[lA,lA];rfl
  rw[this,h,lA];rfl
 rw[e] at hL;have mem:∀j:Nat,(Sum.inl (j:Int):Key)∈(List.range i).map (λj:Nat=>(Sum.inl (j:Int):Key))↔j < i:=λj=>by
  rw[bA];constructor
  ·rintro⟨u,hu,e⟩;have:=YA e;have:=List.mem_range.mp hu;omega
  ·intro hj;exact⟨j,List.mem_range.mpr hj,rfl⟩
 rcases Nat.lt_trichotomy k i with c|c|c
 ·exact absurd ((mem k).mpr c) hL.1
 ·exact c
 ·have:=(mem i).mp (hL.2 i c);omega
structure Fk (k n:Int) (dn:List (List Key)) (kvs ks:List (List Key×V)):Prop where
 i:∀y,k2 n y∈dn->gC ks (k2 k y)=gC kvs (k2 n y)
 o:∀y,k2 n y∉dn->gC ks (k2 k y)=none
 e:∀q,(∀y,q≠k2 k y)->gC ks q=gC kvs q
theorem Fk.step {k n y:Int} {dn:List (List Key)} {kvs ks:List (List Key×V)} {v:V} (h:Fk k n dn kvs ks) (hv:gC kvs (k2 n y)=some v):Fk k n (dn++[k2 n y]) kvs (JC ks (k2 k y) v):=by
 refine⟨λy' hy=>?_,λy' hy=>?_,λq hq=>?_⟩
 ·rw[PK];by_cases c:y'=y
  ·rw[c,iA rfl,hv]
  ·rw[fA λz=>c (EE z).2];rcases dA.mp hy with h1|h1
   ·exact h.i y' h1
   ·exact absurd (EE (aA.mp h1)).2 c
 ·have c:y'≠y:=λz=>hy (eA _ (by rw[z];exact aA.mpr rfl));rw[PK,fA λz=>c (EE z).2];exact h.o y' λz=>hy (pA _ z)
 ·rw[PK,fA (hq y)];exact h.e q hq
theorem Fk.skip {k n n' y:Int} {dn:List (List Key)} {kvs ks:List (List Key×V)} (h:Fk k n dn kvs ks) (hn:n'≠n):Fk k n (dn++[k2 n' y]) kvs ks:=by
 refine⟨λy' hy=>?_,λy' hy=>h.o y' λz=>hy (pA _ z),h.e⟩;rcases dA.mp hy with h1|h1
 ·exact h.i y' h1
 ·exact absurd (EE (aA.mp h1)).1.symm hn
structure Fw (rs:List Rw) (j:Nat) (nw:List Rw):Prop where
 a:∀x'∈nw,∃y,x'.q=k2 1 y/\∃x∈rs.take j,x.q=k2 0 y/\x'.xs=x.xs
 b:∀x∈rs.take j,∀y,x.q=k2 0 y->∃x'∈nw,x'.q=k2 1 y
 k:(nw.map Rw.q).Nodup
 n:(nw.map Rw.a).Nodup
theorem Fw.step {rs nw:List Rw} {j:Nat} {x:Rw} {y:Int} {a:Addr} (h:Fw rs j nw) (rk:(rs.map Rw.q).Nodup) (hx:rs[j]?=some x) (hq:x.q=k2 0 y) (ha:a∉nw.map Rw.a):Fw rs (j+1) (nw++[⟨k2 1 y,a,x.xs⟩])/\∀w∈nw,w.q≠k2 1 y:=by
 have tk:rs.take (j+1)=rs.take j++[x]:=by rw[NA,hx];rfl
 have nx:∀w∈nw,w.q≠k2 1 y:=λw hw z=>by
  obtain⟨y',e1,x0,h0,e2,_⟩:=h.a w hw;have h1:((rs.take (j+1)).map Rw.q).Nodup:=rk.sublist ((jB _ _).map _);rw[tk,gA,zA] at h1;exact h1.2.2 _ (bA.mpr ⟨x0,h0,rfl⟩) _ (aA.mpr rfl) (by rw[e2,hq,(EE (e1.symm.trans z)).2])
 refine⟨⟨λw hw=>?_,λw hw y' e1=>?_,?_,?_⟩,nx⟩
 ·rcases dA.mp hw with q|q
  ·obtain⟨y',e1,x0,h0,e2⟩:=h.a w q;exact⟨y',e1,x0,by rw[tk];exact pA _ h0,e2⟩
  ·rw[aA.mp q];exact⟨y,rfl,x,by rw[tk];exact eA _ (aA.mpr rfl),hq,rfl⟩
 ·rw[tk] at hw;rcases dA.mp hw with q|q
  ·obtain⟨x',h',e2⟩:=h.b w q y' e1;exact⟨x',pA _ h',e2⟩
  ·rw[aA.mp q,hq] at e1;exact⟨_,eA _ (aA.mpr rfl),by rw[(EE e1).2]⟩
 ·rw[gA];exact zA.mpr ⟨h.k,by simp,λa1 h1 b1 h2 z=>by
   obtain⟨w,hw,rfl⟩:=bA.mp h1;rw[aA.mp h2] at z;exact nx w hw z⟩
 ·rw[gA];exact zA.mpr ⟨h.n,by simp,λa1 h1 b1 h2 z=>by
   rw[aA.mp h2] at z;have z:a1=a:=z;rw[z] at h1;exact ha h1⟩
theorem Fw.skip {rs nw:List Rw} {j:Nat} {x:Rw} {c y:Int} (h:Fw rs j nw) (hx:rs[j]?=some x) (hq:x.q=k2 c y) (hc:c≠0):Fw rs (j+1) nw:=by
 have tk:rs.take (j+1)=rs.take j++[x]:=by rw[NA,hx];rfl
 refine⟨λw hw=>?_,λw hw y' e1=>?_,h.k,h.n⟩
 ·obtain⟨y',e1,x0,h0,e2⟩:=h.a w hw;exact⟨y',e1,x0,by rw[tk];exact pA _ h0,e2⟩
 ·rw[tk] at hw;rcases dA.mp hw with q|q
  ·exact h.b w q y' e1
  ·rw[aA.mp q,hq] at e1;exact absurd (EE e1).1 hc
theorem Bk.n1 {G0 B H:Hp} {r:Ro} {z:Hz} {l f g:Int} {tks:List Tk} {made:Int} {S:List Sh} {es:List Ho} {rs:List Rw} {rd td:Addr} {kvs:List (List Key×V)} {τ:Int->Int} {u:Int} (h:Bk A G0 B H r z l f g tks made S es rs rd td kvs τ u) (htk:tks.map Tk.n=[0]):(∀e'∈es,kn e'≠1)/\∀x∈rs,∀y,x.q≠k2 1 y:=by
 have n1:∀e'∈es,kn e'≠1:=λe' he' z=>by
  rcases h.ek e' he' with q|q
  ·unfold kn at z;rw[q.1] at z;cases z
  ·unfold kn at z;rw[q.1] at z;have z:e'.n=1:=z;have:e'.n∈(RE es).map Ho.n:=bA.mpr ⟨e',AA.mpr ⟨he',by rw[q.1];rfl⟩,rfl⟩;rw[h.rh.nm,htk,z] at this;simp at this
 exact⟨n1,λx hx y z=>by
  obtain⟨e0,h0,y0,a1,_⟩:=h.rl x hx;exact n1 e0 h0 (EE (a1.symm.trans z)).1⟩
theorem Bk.v1 {G0 B H:Hp} {r:Ro} {z:Hz} {l f g:Int} {tks:List Tk} {made:Int} {S:List Sh} {es:List Ho} {rs:List Rw} {rd td:Addr} {kvs:List (List Key×V)} {τ:Int->Int} {u:Int} (h:Bk A G0 B H r z l f g tks made S es rs rd td kvs τ u) (htk:tks.map Tk.n=[0]) (y:Int):gC kvs (k2 1 y)=none:=by
 cases e0:gC kvs (k2 1 y) with
 |none=>rfl
 |some v=>
  obtain⟨k,hk,_⟩:=h.tn.nb.mp e0;obtain⟨x,hx,e1⟩:=h.rc _ k hk;exact absurd e1 ((h.n1 htk).2 x hx y)
theorem Fw.nk {rs nw:List Rw} {j:Nat} (h:Fw rs j nw) (rk:(rs.map Rw.q).Nodup) (r1:∀x∈rs,∀y,x.q≠k2 1 y):((rs++nw).map Rw.q).Nodup:=by
 rw[gA];exact zA.mpr ⟨rk,h.k,λa1 h1 b1 h2 z=>by
  obtain⟨x,hx1,rfl⟩:=bA.mp h1;obtain⟨x',hx2,rfl⟩:=bA.mp h2;obtain⟨y,e1,_⟩:=h.a x' hx2;exact r1 x hx1 y (z.trans e1)⟩
theorem Bk.forked {G0 B H G:Hp} {r:Ro} {z:Hz} {l f g:Int} {tks:List Tk} {made:Int} {S:List Sh} {es:List Ho} {rs nw:List Rw} {rd td d tp:Addr} {kvs ks:List (List Key×V)} {τ:Int->Int} {u:Int} {t:Tk} {e:Ho} (h:Bk A G0 B H r z l f g tks made S es rs rd td kvs τ u) (hN:∀w∈rs,∃k,Nb es w.q k) (htk:tks.map Tk.n=[0]) (ht:t∈tks) (he:e∈es) (hek:e.k=false) (hen:e.n=0) (hR:RH A B G r z l f g (tks++[⟨1,tp,t.rs⟩]) [(Sum.inl 0,.int 3)] made (sD e.m S) (es++[⟨false,1,d,e.m⟩]))
  (hd:G rd=some (.dT (iE (rs++nw)))) (hx:∀x∈nw,G x.a=some (.lst (x.xs.map V.int))/\H x.a=none/\¬AE r z (sD e.m S) (es++[⟨false,1,d,e.m⟩]) x.a) (hF:Fw rs rs.length nw) (hs:G td=some (.dT ks)) (hk:Fk 1 0 (rs.map Rw.q) kvs ks) (nk:(ks.map (·.1)).Nodup) (kp:∀c o,H c=some o->B c≠none->c≠rd->c≠td->G c=some o):
  ∃B',Bk A G0 B' G r z l f g (tks++[⟨1,tp,t.rs⟩]) made (sD e.m S) (es++[⟨false,1,d,e.m⟩]) (rs++nw) rd td ks τ u/\∀w∈rs++nw,∃k,Nb (es++[⟨false,1,d,e.m⟩]) w.q k:=by
 have tl:rs.take rs.length=rs:=VA;have kne:kn e=0:=by unfold kn;rw[hek];exact hen
 have n1:=(h.n1 htk).1;have kn9:kn (⟨false,1,d,e.m⟩:Ho)=1:=rfl;have hk1:(1:Int)∉es.map kn:=λq=>by
  obtain⟨e',he',e1⟩:=bA.mp q;exact n1 e' he' e1
 have nb2:∀{q k},Nb (es++[⟨false,1,d,e.m⟩]) q k↔Nb es q k\/∃y∈e.m,q=k2 1 y.1/\k=y.2:=λ{q k}=>by
  constructor
  ·rintro⟨e',he',y,hy,e1,e2⟩;rcases dA.mp he' with q'|q'
   ·exact .inl ⟨e',q',y,hy,e1,e2⟩
   ·rw[aA.mp q'] at hy e1;exact .inr ⟨y,hy,e1,e2⟩
  ·rintro (⟨e',he',y,hy,e1,e2⟩|⟨y,hy,e1,e2⟩)
   ·exact⟨e',pA _ he',y,hy,e1,e2⟩
   ·exact⟨_,eA _ (aA.mpr rfl),y,hy,e1,e2⟩
 have nb0:∀{y:Int×Int},y∈e.m->Nb es (k2 0 y.1) y.2:=λ{y} hy=>⟨e,he,y,hy,by rw[kne],rfl⟩
 have vk:∀y,gC ks (k2 1 y)=gC kvs (k2 (kn e) y):=λy=>by
  rw[kne];by_cases c:k2 0 y∈rs.map Rw.q
  ·exact hk.i y c
  ·rw[hk.o y c];cases e0:gC kvs (k2 0 y) with
   |none=>rfl
   |some v=>
    obtain⟨k,hk',_⟩:=h.tn.nb.mp e0;obtain⟨x,hx,e1⟩:=h.rc _ k hk';exact absurd (bA.mpr ⟨x,hx,e1⟩) c
 have hTn:Tn (sD e.m S) (es++[⟨false,1,d,e.m⟩]) ks τ u:=h.tn.fork h.nn he hk1 vk hk.e nk;obtain⟨B',hR',hB'⟩:=hR.rebase;have b':∀{c o},B c≠none->G c=some o->B' c≠none:=λnc h9=>by rw[hB' _ (hR.nb nc),h9];exact λz=>nomatch z
 have hxr:∀x∈rs,G x.a=some (.lst (x.xs.map V.int)):=λx hx=>kp _ _ (h.rx x hx) (h.ow.2.2 x hx) (LC (h.rx x hx) h.hd (λz=>nomatch z)) (LC (h.rx x hx) h.sh (λz=>nomatch z));have Fa:=hF.a;have Fb':=hF.b;rw[tl] at Fa Fb';refine⟨B',⟨hR',h.pc.fork he,hTn,λq q' k b h1 h2=>?_,λc y k hk' hc=>?_,λe' he'=>?_,?_,?_,λt' ht'=>?_,.inr ?_,hd,λx hx'=>?_,?_,?_,λx hx'=>?_,λq k hk'=>?_,hs,?_,λe' he'=>?_,⟨b' h.ow.1 hd,b' h.ow.2.1 hs,λx hx'=>?_⟩,h.ne,λc o hc=>?_⟩,λw hw=>?_⟩
 ·have g1:Nb es q k:=(nb2.mp h1).elim id λ⟨y,hy,e1,e2⟩=>by
   obtain⟨y',z⟩:=b;have:=(EE (e1.symm.trans z)).1;omega
  rcases nb2.mp h2 with g2|⟨y,hy,e1,e2⟩
  ·exact h.bo q q' k b g1 g2
  ·have:=h.bo q _ k b g1 (by rw[e2];exact nb0 hy);obtain⟨y',z⟩:=b;have:=(EE (this.trans z)).1;omega
 ·rcases nb2.mp hk' with g1|⟨y',hy,e1,e2⟩
  ·exact h.pr c y k g1 hc
  ·rw[(EE e1).2];exact h.pr 0 y'.1 _ (nb0 hy) (by decide)
 ·rcases dA.mp he' with q|q
  ·exact h.ek e' q
  ·rw[aA.mp q];exact .inr ⟨rfl,.inr rfl⟩
 ·rw[gA];exact zA.mpr ⟨h.nn,by simp,λa1 h1 b1 h2 z=>hk1 (by rw[aA.mp h2] at z;rw[<-show a1=1 from z];exact h1)⟩
 ·rw[oA,oA];have:=h.el;show es.length+1<=tks.length+1+1;omega
 ·rcases dA.mp ht' with q|q
  ·exact h.ts t' q
  ·rw[aA.mp q];exact h.ts t ht
 ·rw[gA,htk];rfl
 ·rcases dA.mp hx' with q|q
  ·exact hxr x q
  ·exact (hx x q).1
 ·exact hF.nk h.rk (h.n1 htk).2
 ·rw[gA];exact zA.mpr ⟨h.ra,hF.n,λa1 h1 b1 h2 z=>by
   obtain⟨x,hx1,rfl⟩:=bA.mp h1;obtain⟨x',hx2,rfl⟩:=bA.mp h2;have h9:=h.rx x hx1;rw[z,(hx x' hx2).2.1] at h9;cases h9⟩
 ·rcases dA.mp hx' with q|q
  ·obtain⟨e0,h0,y,a1,a2⟩:=h.rl x q;exact⟨e0,pA _ h0,y,a1,by rw[q9];exact a2⟩
  ·obtain⟨y,e1,x0,h0,e2,e3⟩:=Fa x q;refine⟨_,eA _ (aA.mpr rfl),y,e1,?_⟩;obtain⟨e0,m0,y0,a1,a2⟩:=h.rl x0 h0;obtain⟨c1,c2⟩:=EE (a1.symm.trans e2);rw[q9,e3,a2,c2,cE h.nn m0 he (c1.trans kne.symm)]
   rfl
 ·rcases nb2.mp hk' with g1|⟨y,hy,e1,e2⟩
  ·obtain⟨x,hx1,e3⟩:=h.rc q k g1;exact⟨x,pA _ hx1,e3⟩
  ·obtain⟨x,hx1,e3⟩:=h.rc _ _ (nb0 hy);obtain⟨x',hx2,e4⟩:=Fb' x hx1 y.1 e3;exact⟨x',eA _ hx2,e4.trans e1.symm⟩
 ·unfold sD;rw[cA];exact h.sl
 ·rcases dA.mp he' with q|q
  ·exact h.ml e' q
  ·rw[aA.mp q];exact h.ml e he
 ·rcases dA.mp hx' with q|q
  ·exact b' (h.ow.2.2 x q) (hxr x q)
  ·rw[hB' _ (hx x q).2.2,(hx x q).1];exact λz=>nomatch z
 ·obtain⟨c1,c2,c3,c4,c5⟩:=h.k0 c o hc;have c6:=kp c o c1 c2 c3 c4;refine⟨c6,b' c2 c6,c3,c4,λx hx'=>?_⟩;rcases dA.mp hx' with q|q
  ·exact c5 x q
  ·exact λz=>by rw[z,(hx x q).2.1] at c1;cases c1
 ·rcases dA.mp hw with q|q
  ·obtain⟨k,hk'⟩:=hN w q;exact⟨k,nb2.mpr (.inl hk')⟩
  ·obtain⟨y,e1,x0,h0,e2,_⟩:=Fa w q;obtain⟨k,e',he',y',hy',e3,e4⟩:=hN x0 h0;obtain⟨c1,c2⟩:=EE (e3.symm.trans e2);obtain rfl:=cE h.nn he' he (c1.trans kne.symm);exact⟨k,nb2.mpr (.inr ⟨y',hy',by rw[e1,c2],e4⟩)⟩
theorem RH.nl {A:RC} {B H:Hp} {r:Ro} {z:Hz} {l f g:Int} {tks:List Tk} {bk:Kvs} {made:Int} {S:List Sh} {es:List Ho} (h:RH A B H r z l f g tks bk made S es) {c:Addr} {xs:List V} (hc:H c=some (.lst xs)) (hs:∀s∈S,c≠s.a):¬AE r z S es c:=by
 obtain⟨dx,h1⟩:=h.s.me;rintro (rfl|q|⟨s,hs',rfl⟩)
 ·rw[h1] at hc;cases hc
 ·unfold OE at q;simp only[vA] at q;rcases q with rfl|rfl|rfl|rfl|rfl|rfl|q
  ·rw[h.s.s] at hc;cases hc
  ·rw[h.s.h] at hc;cases hc
  ·rw[h.pd] at hc;cases hc
  ·rw[h.bd] at hc;cases hc
  ·rw[h.h.t] at hc;cases hc
  ·rw[h.h.b] at hc;cases hc
  ·obtain⟨e,he,rfl⟩:=bA.mp q;rw[h.pe e he] at hc;cases hc
 ·exact hs s hs' rfl
def rK (K:W.Frag):Sp:=λvs H Q ο=>∃(a:Addr) (ns:List Int),vs=[.ref a]/\QC K H a (ns.map V.int)/\ns.length<=63/\∀H',Q (.bl true) H'
theorem mi (T:fD K mg A):eF P w K mg base "law" nQ ["_law_script","_law_grain","_law_size","_law_rooms","_law_worth","_law_rows","_law_sheets","_law_tasks","_law_cells","_law_turn_here","_law_cell","_law_key_here"] 16 (rK K):=by
 have Im:=@xL P w K mg base A T;have Io:=@zh P w K mg base A T;have E5:=@JO P w K mg base A T;have E6:=@MO P w K mg base A T;have Jd:=@Wh P w K mg base A T;have Ip:=@Xh P w K mg base A T;have Iq:=@Uh P w K mg base A T;have Da:=@PL P w K mg base A T;have Bz:=@nK P w K mg base A T;have Bg:=@nU P w K mg base A T;have Cq:=@qK P w K mg base A T;have Ir:=@pM P w K mg base A T;have Lc:=@WO P w K mg base A T;intro f cdv A' outer s H vs Q E hr z;obtain⟨a,ns,rfl,hs,hns,qq⟩:=z;have Be:=@zL P w K mg base A T a ns;refine⟨_,(CC (iD (i:=1) bH.nd rfl (Or.inl rfl) (BD eI (DD Be (hr.mono (by decide)) GC (iC (eC 0) (iC yC rC))) yC))
   (CC (iD (i:=2) bH.nd rfl (Or.inl rfl) (BD GK yC (eC 1)))
   (LI (iD (i:=3) bH.nd rfl (Or.inl rfl) (jR Io (hr.mono (by decide)) GC (iC (jR Im (hr.mono (by decide)) GC (iC (BD aG yC (BD eI (DD Be (hr.mono (by decide)) GC (iC (eC 0) (iC yC rC))) yC)) (iC (BD aG yC (BD eI (DD Be (hr.mono (by decide)) GC (iC (eC 0) (iC yC rC))) yC)) (iC (eC 1) rC)))) (iC yC rC))))
   (CC (iD (i:=4) bH.nd rfl (Or.inl rfl) (gI (iC yC (iC (BD eI (DD Be (hr.mono (by decide)) GC (iC (eC 0) (iC yC rC))) (BD T2 yC yC)) (iC (BD tH (jJ S4 yC) (BD eI (DD Be (hr.mono (by decide)) GC (iC (eC 0) (iC yC rC))) (BD T2 yC yC))) (iC (eC 2) rC))))))
   (CC (GE (mI (eC 3) T.Ac E5 (hr.mono (by decide)) GC))
   (CC (GE (HD (eC 3) T.Ac E6 (hr.mono (by decide)) GC (iC yC rC)))
   (CC (GE (HD (eC 3) T.Ac Ip (hr.mono (by decide)) GC (iC yC (iC yC (iC yC (iC yC rC))))))
   (CC (GE (HD (eC 3) T.Ac Jd (hr.mono (by decide)) GC (@iC _ _ _ _ _ yC (@iC _ _ _ _ _ yC (@iC _ _ _ _ _ yC (@iC _ _ _ _ _ yC (@iC _ _ _ _ _ yC (@iC _ _ _ _ _ yC rC rfl) rfl) rfl) rfl) rfl) rfl)))
   (CC (iD (i:=5) bH.nd rfl (Or.inl rfl) RP)
   (CC (iD (i:=6) bH.nd rfl (Or.inr rfl) RP)
   (CC (iD (i:=7) bH.nd rfl (Or.inl rfl) yC)
   (CC (iD (i:=8) bH.nd rfl (Or.inl rfl) (AN EN (eC 0) (rJ yC) (rJ yC)))
   (CC (GH aB rfl (ce rfl T.Iu (iC (eC 8) rC)) (X1 (n:=2) rfl (pN (wF (i:=9) bH.nd rfl (Or.inl rfl)) (pN (wF (i:=10) bH.nd rfl (Or.inl rfl)) W1))) (LI (hE (pE EI (eC 9) (BD RQ (rF oJ rfl T.A7 PySem.boot_len (iC (eC 8) rC)) yC) (wC _)) (CC (GE (HD (eC 3) T.Ac Iq (hr.mono (by decide)) GC (iC yC rC)))
   (CC (iD (i:=7) bH.nd rfl (Or.inl rfl) yC)
   (FC (GH aB rfl (BI (iI (re rfl) rfl T.B7 DB (iC (eC 5) rC))) (wF (i:=11) bH.nd rfl (Or.inl rfl)) (FC (hE (pE EI (GD fE (eC 11) yC (λο ο=>rfl)) yC (wC _)) (CC (QF (dD hr) (eC 5) (NG (iC yC (iC (GD fE (eC 11) yC (λο ο=>rfl)) rC))) (iI GN rfl T.B7 DB (iC (VD (dD hr) (eC 5) (eC 11) (λο ο=>rfl)) rC)) rfl)
   (FC (QF (dD hr) (eC 6) (NG (iC yC (iC (GD fE (eC 11) yC (λο ο=>rfl)) rC))) (VD (dD hr) (eC 6) (eC 11) (λο ο=>rfl)) rfl))) kE)))))) kE)
   (CC (hE (iH (XG (DD Lc (hr.mono (by decide)) GC (@iC _ _ _ _ _ (eC 3) (@iC _ _ _ _ _ (eC 5) (@iC _ _ _ _ _ (eC 6) (@iC _ _ _ _ _ (eC 7) (@iC _ _ _ _ _ (eC 10) (@iC _ _ _ _ _ (eC 9) (@iC _ _ _ _ _ (eC 4) rC rfl) rfl) rfl) rfl) rfl) rfl) rfl)))) (FC (uD zM)) kE)
   (CC (HR (hE (iH (XG (DD Bg (hr.mono (by decide)) GC (iC (mI (eC 3) T.Ac Da (hr.mono (by decide)) GC) (iC (rF gf rfl T.A7 PySem.boot_len (iC (iI (df rfl) rfl T.Mj PyProof.Rows.boot_set (iC (xR rfl (JR (eC 6)) (x:="_law_key_here") (fs:=["_law_sheets"]) (ix:=[6]) rfl rfl (λο ο ο ο ο ο=>(wF (i:=0) (show (["_law_key_here","_law_sheets"]:List Str).Nodup by decide+kernel) rfl (Or.inl rfl))) (λο ο ο ο ο ο=>wR) (λο ο ο ο ο ο=>(VD (dD hr) (eC 1) (eC 0) (λο ο=>rfl)))) rC)) rC)) rC))))) (FC (uD zM)) kE))
   (FC (hE (iH (XG (DD Ir (hr.mono (by decide)) GC (iC (eC 3) (iC (eC 5) (iC (eC 7) (iC (eC 2) rC))))))) (FC (uD zM)) kE))))))
   (FC (uD (yI (DD Bg (hr.mono (by decide)) GC (iC (mI (eC 3) T.Ac Bz (hr.mono (by decide)) GC) (iC (DD Cq (hr.mono (by decide)) GC (iC (eC 5) (iC (eC 6) rC))) rC))) (BM (DD Ir (hr.mono (by decide)) GC (iC (eC 3) (iC (eC 5) (iC (eC 7) (iC (eC 2) rC)))))))))))))))))))))),?_⟩
 unfold b7;rfl';have hg1:0<=ns.getD 0 0 % 3/\ns.getD 0 0 % 3<=2:=⋯;generalize ns.getD 0 0 % 3=gr at *;have e2:(1:Int) * 2 ^ gr.toNat=pw gr:=by unfold pw;omega
 rw[e2];refine⟨hs,⋯,⋯,by decide,?_⟩;obtain⟨l,hl⟩:∃l,l=2+ns.getD 1 0 % 2:=⟨_,rfl⟩
 obtain⟨fn,hfn⟩:∃fn,fn=2+ns.getD 2 0 % 7:=⟨_,rfl⟩
 have hl1:2<=l/\l<=3:=⋯;have hf1:2<=fn/\fn<=8:=⋯;have hgd:gd l fn gr:=⟨hl1.1,hl1.2,⋯,hf1.2,hg1.1,⋯⟩
 have hpp:=oI hgd;have hm24:=rR hl1.1 hl1.2 (show 1<=fn by omega) hf1.2;have hm4:4<=l * fn:=by
  have:2 * 2<=l * fn:=Int.mul_le_mul hl1.1 hf1.1 ⋯ ⋯;omega
 have hpw:16<=pw (l * fn):=by
  have:=pR hm4 ⋯;have e:pw 4=16:=by decide
  omega
 refine⟨λσ H1=>∃r z,σ=[some (.ref a),some (.int gr),some (.int (pw gr)),some (.ref r.p),none,none,none,none,none,none,none,none]/\r.most=64/\RB A H1 r z l fn gr [] []/\uC H H1/\(∀e∈EF r z [],H e=none)/\H r.p=none/\(H1 r.bd=some (.dK [])/\r.bd∉EF r z []/\H r.bd=none),?_,λσ' H1=>?_⟩
 ·unfold QH;rfl';refine⟨hs,hs,?_⟩;rw[<-hl,<-hfn];refine λx dx hx hdx hne=>?_;rw[iA (sg hgd)];refine li hgd hx hdx (λr z H' hm s1 hB hf hp bd9=>?_);exact⟨rfl,r,rfl,hm,z,hB,s1,hf,hp,bd9⟩
 rintro⟨r,z,rfl,hmo,hB1,s1,hf,hp0,hbd1⟩;have hs1:=s1.seq hs;rfl';refine⟨hs1,hs1,λwa hwa=>?_⟩;generalize ns.getD 0 0 % 100000000000000000000000000000000000000000000000000=w1 at *;generalize -1 - ns.getD 1 0 % 100000000000000000000000000000000000000000000000000=w2 at *;obtain⟨s2,g2⟩:=ZE (o:=.lst [V.int 0,V.int w1,V.int w2,V.int (pw gr)]) hwa;have hB2:=hB1.same s2;have hbd2:=s2 _ _ hbd1.1;generalize jC H1 wa (.lst [V.int 0,V.int w1,V.int w2,V.int (pw gr)])=H2 at *;obtain⟨dx2,h12⟩:=hB2.s.me;refine⟨dx2,_,h12,QE ∅,r,z,l,fn,gr,[],[],rfl,hB2,by decide,λk p d H3 hL hB3 hp hd hk3=>?_⟩;obtain rfl:=ba (i:=0) rfl hL;have hB3:RB A H3 r z l fn gr [⟨0,p,[]⟩] [⟨0,d,[]⟩]:=hB3;have inD:∀{c},c=r.pd\/c=z.td\/c=z.bd->c∈EF r z []:=λh=>by
  unfold EF;rcases h with h|h|h<;>rw[h]<;>simp
 have hbd3:=hk3 _ _ hbd2 (λq=>hbd1.2.1 (inD (.inl q))) (λq=>hbd1.2.1 (inD (.inr (.inl q))));have nbd:r.bd≠d:=λq=>by rw[<-q,hbd2] at hd;cases hd
 have hnb:r.bd∉EF r z [⟨0,d,[]⟩]:=λq=>by
  have e0:EF r z [⟨0,d,[]⟩]=EF r z []++[d]:=rfl;rw[e0] at q;rcases dA.mp q with h|h
  ·exact hbd1.2.1 h
  ·exact nbd (aA.mp h)
 have gwa3:=hk3 _ _ g2 (bD hB1.pd hwa).symm (bD hB1.h.t hwa).symm;have s3:uC H H3:=λc o h=>hk3 _ _ (s2 _ _ (s1 _ _ h)) (bD h (hf _ (inD (.inl rfl)))) (bD h (hf _ (inD (.inr (.inl rfl)))));have hpH:H p=none:=VF (s1.trans s2) hp;have nwp:wa≠p:=λq=>by rw[<-q,g2] at hp;cases hp
 obtain⟨B,hRH,hPC,_⟩:=hB3.rh hbd3 hnb;have nwb:wa≠r.bd:=(bD hbd1.1 hwa).symm;have nwz:wa≠z.bd:=(bD hB1.h.b hwa).symm;clear hB1 hB2 hB3 hk3 hbd2 hbd3 h12 g2 s2 hs1;obtain⟨dx3,h13⟩:=hRH.s.me;refine⟨dx3,_,h13,QE ∅,B,r,z,l,fn,gr,_,[],0,[],_,3,rfl,hRH,⟨by decide,by decide⟩,by decide,λk bd9 H4 hL4 hd4 hR4 fr4=>?_⟩;obtain rfl:k=0:=by
  rcases Nat.eq_zero_or_pos k with h|h
  ·exact h
  ·exact absurd (hL4.2 0 h) (by unfold zD;simp)
 have hR4:RH A B H4 r z l fn gr [⟨0,p,[]⟩] [(Sum.inl 0,.int 3)] 0 [] [⟨false,0,d,[]⟩,⟨true,0,bd9,[]⟩]:=hR4;have s4:uC H H4:=λc o h=>fr4 _ _ (s3 _ _ h) (bD h (hf _ (inD (.inr (.inr rfl))))) (bD h hbd1.2.2);have gwa4:=fr4 _ _ gwa3 nwz nwb;clear hRH h13 fr4 s3 gwa3 hL4;obtain⟨dx4,h14⟩:=hR4.s.me;have e1:ZJ [] 0 10 3 (yF none 0)=[⟨0,10,3,none⟩]:=by decide
 have e9:ZJ [⟨0,10,3,none⟩] 10 3 3 (yF (some 0) 0)=lM:=by decide
 refine⟨dx4,_,h14,QE ∅,B,r,z,l,fn,gr,_,_,0,[],_,0,0,10,3,0,none,⟨0,p,[]⟩,rfl,hR4,qA .., rfl,nA ⋯,⟨by decide,by decide⟩,(λb' z=>nomatch z),(by show lG [] 0 10=[];decide),by rw[e1];exact⟨by decide,by decide⟩,by rw[e1];decide,λH5 hR5 bu5=>?_⟩;rw[e1] at hR5;have hR5:RH A B H5 r z l fn gr [⟨0,p,[⟨0,10,3,none⟩]⟩] [(Sum.inl 0,.int 3)] 0 [] [⟨false,0,d,[]⟩,⟨true,0,bd9,[]⟩]:=hR5;obtain⟨dx5,h15⟩:=hR5.s.me;refine⟨dx5,_,h15,QE ∅,B,r,z,l,fn,gr,_,_,0,[],_,0,10,3,3,0,some 0,⟨0,p,[⟨0,10,3,none⟩]⟩,rfl,hR5,qA .., rfl,nA ⋯,⟨by decide,by decide⟩,(λb' hb'=>by cases hb';exact⟨3,rfl,by decide,by decide⟩),(by show lG [⟨0,10,3,none⟩] 10 3=[];decide),by rw[e9];exact⟨by decide,by decide⟩,by rw[e9];decide,λH6 hR6 bu6=>?_⟩;rw[e9] at hR6;have hR6:RH A B H6 r z l fn gr [⟨0,p,lM⟩] [(Sum.inl 0,.int 3)] 0 [] [⟨false,0,d,[]⟩,⟨true,0,bd9,[]⟩]:=hR6;have s6:uC H H6:=λc o h=>bu6 _ _ (bu5 _ _ (s4 _ _ h) (bD h hpH)) (bD h hpH);have gwa6:=bu6 _ _ (bu5 _ _ gwa4 nwp) nwp;clear hR4 hR5 h14 h15 bu5 bu6 s4 gwa4;unfold tDNewT;rfl';intro rd hrd td htd;obtain⟨s7,g7⟩:=ZE (o:=.dT []) hrd;have nrd:=hR6.ex hrd;have hR7:=hR6.same s7;generalize jC H6 rd (.dT [])=H7 at *;obtain⟨s8,g8⟩:=ZE (o:=.dT []) htd;have ntd:=hR7.ex htd;have hR8:=hR7.same s8;have nrt:rd≠td:=bD g7 htd;generalize jC H7 td (.dT [])=H8 at *;refine⟨_,(s6.trans (s7.trans s8)).seq hs,λsl hsl=>?_⟩;have hcut:DE (ns.map V.int) (some 3) (some 53)=((ns.take 53).drop 3).map V.int:=by rw[show DE (ns.map V.int) (some 3) (some 53)=((ns.map V.int).take 53).drop 3 from MT (lo:=3) (hi:=53),<-List.map_take,<-List.map_drop]
 rw[hcut];have hcl:((ns.take 53).drop 3).length<=50:=by rw[List.length_drop,cB];omega
 generalize (ns.take 53).drop 3=cs at *;obtain⟨s9,g9⟩:=ZE (o:=.lst (cs.map V.int)) hsl;have nsl:=hR8.ex hsl;have hR9:=hR8.same s9;have gw9:=s9 _ _ (s8 _ _ (s7 _ _ gwa6));have gr9:=s9 _ _ (s8 _ _ g7);have gt9:=s9 _ _ g8;have nsw:sl≠wa:=(bD (s8 _ _ (s7 _ _ gwa6)) hsl).symm;have nsr:sl≠rd:=(bD (s8 _ _ g7) hsl).symm;have nst:sl≠td:=(bD g8 hsl).symm;have nwr:wa≠rd:=bD gwa6 hrd;have nwt:wa≠td:=bD (s7 _ _ gwa6) htd;generalize jC H8 sl (.lst (cs.map V.int))=H9 at *;have nwa:¬AE r z [] [⟨false,0,d,[]⟩,⟨true,0,bd9,[]⟩] wa:=hR9.nl gw9 λs hs=>by cases hs
 obtain⟨B9,hR10,hB9⟩:=hR9.rebase;have b9:∀{c o},¬AE r z [] [⟨false,0,d,[]⟩,⟨true,0,bd9,[]⟩] c->H9 c=some o->B9 c≠none:=λn h=>by rw[hB9 _ n,h];exact λz=>nomatch z
 have htdH:H td=none:=VF (s6.trans s7) htd;have hrdH:H rd=none:=VF s6 hrd;obtain⟨G0,hG0⟩:∃G0:Hp,G0=λc=>if c=sl then some (.lst (cs.map V.int)) else if c=wa then some (.lst [V.int 0,V.int w1,V.int w2,V.int (pw gr)]) else none:=⟨_,rfl⟩
 have noNb:∀{q k},¬Nb [⟨false,0,d,[]⟩,⟨true,0,bd9,[]⟩] q k:=λ⟨e,he,y,hy,_⟩=>by
  simp only[vA,fB,or_false] at he;rcases he with rfl|rfl<;>cases hy
 have hK0:Bk A G0 B9 H9 r z l fn gr [⟨0,p,lM⟩] 0 [] [⟨false,0,d,[]⟩,⟨true,0,bd9,[]⟩] [] rd td [] (λο=>0) 0:=by
  refine⟨hR10,⟨λe he y hy=>absurd ⟨e,he,y,hy,rfl,rfl⟩ noNb,(λs hs=>by cases hs),(λs hs=>by cases hs)⟩,⟨.nil,λq v=>⟨(λh=>by cases h),λ⟨e,he,y,hy,h1,h2⟩=>absurd ⟨e,he,y,hy,h1,rfl⟩ noNb⟩,(λs hs=>by cases hs),(λs hs=>by cases hs)⟩,λq q' k ο h=>absurd h noNb,λc y k h=>absurd h noNb,λe he=>?_,by show ([0,2]:List Int).Nodup;decide,kA _,λt ht=>by rw[aA.mp ht],.inl rfl,gr9,(λx hx=>by cases hx),.nil,.nil,(λx hx=>by cases hx),λq k h=>absurd h noNb,gt9,Int.le_refl _,λe he=>?_,⟨b9 nrd gr9,b9 ntd gt9,(λx hx=>by cases hx)⟩,nrt,λc o hc=>?_⟩
  ·simp only[vA,fB,or_false] at he;rcases he with rfl|rfl
   ·exact .inr ⟨rfl,.inl rfl⟩
   ·exact .inl ⟨rfl,rfl⟩
  ·simp only[vA,fB,or_false] at he;rcases he with rfl|rfl<;>exact Int.le_refl _
  ·rw[hG0] at hc;have hc:(if c=sl then some (HO.lst (cs.map V.int)) else if c=wa then some (HO.lst [V.int 0,V.int w1,V.int w2,V.int (pw gr)]) else none)=some o:=hc;by_cases q:c=sl
   ·rw[iA q] at hc;rw[q,<-hc];exact⟨g9,b9 nsl g9,nsr,nst,λx hx=>by cases hx⟩
   ·rw[fA q] at hc;by_cases q:c=wa
    ·rw[iA q] at hc;rw[q,<-hc];exact⟨gw9,b9 nwa gw9,nwr,nwt,λx hx=>by cases hx⟩
    ·rw[fA q] at hc;cases hc
 have gsl:G0 sl=some (.lst (cs.map V.int)):=by rw[hG0];exact iA rfl
 have gwa:G0 wa=some (.lst [V.int 0,V.int w1,V.int w2,V.int (pw gr)]):=by rw[hG0];exact (fA nsw.symm).trans (iA rfl)
 clear hG0 hR6 hR7 hR8 hR9 hR10 hB9 b9 gwa6 s6 s7 s8 hf hp0 hbd1 hd hd4 hp;have hsK:∀{B' H' tks made S es rs kvs τ u},Bk A G0 B' H' r z l fn gr tks made S es rs rd td kvs τ u->H' sl=some (.lst (cs.map V.int)):=λh=>(h.k0 sl _ gsl).1;refine⟨⟨_,QC.of g9⟩,de (K:=K) (xs:=cs.map V.int) (λi σ G=>∃v9 v10 v11 B tks made S es rs kvs τ,σ=[some (.ref a),some (.int gr),some (.int (pw gr)),some (.ref r.p),some (.ref wa),some (.ref rd),some (.ref td),some (.int (tks.length:Int)),some (.ref sl),v9,v10,v11]/\Bk A G0 B G r z l fn gr tks made S es rs rd td kvs τ (i:Int)/\(∀w∈rs,∃k,Nb es w.q k)/\(i<=cs.length / 2->tks.map Tk.n=[0])) ⟨_,_,_,B9,_,_,_,_,_,_,_,rfl,hK0,(λw hw=>by cases hw),λο=>rfl⟩ (λi σ G _ zz=>by obtain⟨_,_,_,_,_,_,_,_,_,_,_,zz⟩:=zz;exact QC.of (hsK zz.2.1)) (λi v t0 σ G hi=>?_) (λσ G=>?_)⟩
 ·rintro⟨v9,v10,v11,B,tks,made,S,es,rs,kvs,τ,rfl,hB,hN,htk⟩ ht0;have gt0:=(ZE (o:=.tup [V.int (i:Int),v]) ht0).2;have hB:=hB.same (ZE (o:=.tup [V.int (i:Int),v]) ht0).1;obtain⟨c,rfl⟩:∃c:Int,v=V.int c:=by
   obtain⟨c,_,e⟩:=bA.mp (JA hi);exact⟨c,e.symm⟩
  have hil:=(IA.mp hi).1;rw[cA] at hil;generalize jC G t0 (.tup [V.int (i:Int),V.int c])=G1 at *;rfl';refine⟨_,ZC.of gt0,rfl,_,_,rfl,_,_,rfl,rfl,?_⟩;refine⟨λσ G=>∃v11 B tks made S es rs kvs τ,σ=[some (.ref a),some (.int gr),some (.int (pw gr)),some (.ref r.p),some (.ref wa),some (.ref rd),some (.ref td),some (.int (tks.length:Int)),some (.ref sl),some (.int (i:Int)),some (.int c),v11]/\Bk A G0 B G r z l fn gr tks made S es rs rd td kvs τ (i:Int)/\(∀w∈rs,∃k,Nb es w.q k)/\(i+1<=cs.length / 2->tks.map Tk.n=[0]),?_,λσ2 G2=>?_⟩
  ·rfl';refine⟨_,.inl ⟨_,QC.of (hsK hB),rfl⟩,?_⟩;rw[cA];by_cases ci:(i:Int)=(cs.length:Int) / 2
   ·rw[iA ci];have htk0:=htk ⋯;have htl:tks.length=1:=by have:=congrArg List.length htk0;rw[cA] at this;exact this
    have hm0:(0:Int)∈tks.map Tk.n:=by rw[htk0];exact qA ..
    obtain⟨t,ht,t1⟩:=bA.mp hm0;obtain⟨e,he,hek,hen,_⟩:=hB.rh.pv ht;have hml:=hB.ml e he;have hsl9:=hB.sl;have hkl9:=hB.kl ⋯;have hrl9:=hB.rn hN;obtain⟨dx,h1⟩:=hB.rh.s.me;refine⟨dx,_,h1,QE ∅,B,r,z,l,fn,gr,tks,_,made,S,es,0,t,e,rfl,hB.rh,hB.pc,⋯,ht,t1,he,hek,hen.trans t1,⋯,⋯,λk tp d0 F1 hk hd0 hR1 fr1=>?_⟩;obtain rfl:=ba (i:=1) (by rw[htk0];rfl) hk;have hR1:RH A B F1 r z l fn gr (tks++[⟨1,tp,t.rs⟩]) [(Sum.inl 0,.int 3)] made (sD e.m S) (es++[⟨false,1,d0,e.m⟩]):=hR1;have kp1:∀c o,G1 c=some o->B c≠none->F1 c=some o:=λc o h nc=>let ⟨_,⟨_,m2,m3,_,m5,_⟩,_,_⟩:=hB.rh.no (hB.rh.nb nc);fr1 c o h m5 m3 m2
    have hd1:=kp1 _ _ hB.hd hB.ow.1;have hs1:=kp1 _ _ hB.sh hB.ow.2.1;unfold ND pD;rfl';refine⟨iE rs,hd1,λkl us hl hks=>?_⟩;obtain⟨s5,g5⟩:=ZE (o:=.lst us) hl;have hks:RG (jC F1 kl (.lst us)) ((iE rs).map (·.1)) us:=Paired.mapP hks λ_ _ ⟨a,e,h⟩=>⟨a,e,s5 _ _ h⟩
    rw[tU] at hks;have hR5:=hR1.same s5;have hd5:=s5 _ _ hd1;have hs5:=s5 _ _ hs1;have kp5:∀c o,G1 c=some o->c≠z.td->c≠r.pd->c≠r.hd->jC F1 kl (.lst us) c=some o:=λc o h m1 m2 m3=>s5 _ _ (fr1 c o h m1 m2 m3);generalize jC F1 kl (.lst us)=G5 at *;clear hd1 hs1 hR1 fr1 kp1 h1;have nkd:∀{a:Addr} {o:HO},G5 a=some o->(∀ks,o≠.dT ks)->a≠rd/\a≠td:=λho n=>⟨λz=>(by rw[z,hd5] at ho;exact n _ (rA ho).symm),λz=>(by rw[z,hs5] at ho;exact n _ (rA ho).symm)⟩
    have hz:=PySem.sizeLine_eq;refine⟨⟨_,QC.of g5⟩,SN (K:=K) (xs:=us) (λj σ G=>∃v11 nw ks,σ=[some (.ref a),some (.int gr),some (.int (pw gr)),some (.ref r.p),some (.ref wa),some (.ref rd),some (.ref td),some (.int 2),some (.ref sl),some (.int (i:Int)),some (.int c),v11]/\RH A B G r z l fn gr (tks++[⟨1,tp,t.rs⟩]) [(Sum.inl 0,.int 3)] made (sD e.m S) (es++[⟨false,1,d0,e.m⟩])/\G rd=some (.dT (iE (rs++nw)))/\(∀x∈nw,G x.a=some (.lst (x.xs.map V.int))/\G1 x.a=none/\¬AE r z (sD e.m S) (es++[⟨false,1,d0,e.m⟩]) x.a)/\Fw rs j nw/\nw.length<=j/\G td=some (.dT ks)/\Fk 1 0 ((rs.map Rw.q).take j) kvs ks/\(ks.map (·.1)).Nodup/\ks.length<=kvs.length+j/\∀c o,G5 c=some o->c≠rd->c≠td->G c=some o) ⟨_,[],kvs,rfl,hR5,by rw[GB];exact hd5,(λx hx=>by cases hx),⟨(λx hx=>by cases hx),(λx hx=>by rw[List.take_zero] at hx;cases hx),.nil,.nil⟩,kA _,hs5,⟨λy z=>?_,λy ο=>hB.v1 htk0 y,λο ο=>rfl⟩,hB.tn.nk,kA _,λc o h ο ο=>h⟩ (λj σ G _ zz=>by obtain⟨_,_,_,zz⟩:=zz;exact QC.of (zz.2.2.2.2.2.2.2.2.2.2 _ _ g5 (nkd g5 (λο z=>nomatch z)).1 (nkd g5 (λο z=>nomatch z)).2)) (λj v σ G hj=>?_) (λσ G=>?_)⟩
    ·rw[List.take_zero] at z;cases z
    ·rintro⟨v11,nw,ks,rfl,hR,hd,hx,hF,hnl,hs,hK,hnk,hkl,fr⟩;obtain⟨q0,hq,a',rfl,ha⟩:=t9 hks hj;rw[QA,XA] at hq;obtain⟨x,hxj,rfl⟩:=hq;have hxm:=JA hxj;have hjl:=(IA.mp hxj).1;obtain⟨e0,h0,y,hq,_⟩:=hB.rl x hxm;have htk:(rs.map Rw.q).take (j+1)=(rs.map Rw.q).take j++[k2 (kn e0) y]:=by rw[NA,QA,hxj,<-hq];rfl
     rw[hq] at ha;have ha':G a'=some (.tup [V.int (kn e0),V.int y]):=fr _ _ ha (nkd ha (λο z=>nomatch z)).1 (nkd ha (λο z=>nomatch z)).2;rfl';refine⟨_,ZC.of ha',_,rfl,rfl,?_⟩;by_cases c0:kn e0=0
     ·rw[c0,iA rfl];rw[c0] at ha' htk hq;have hg:=jM (hF.nk hB.rk (hB.n1 htk0).2) (pA nw hxm);rw[hq] at hg;have hxG:G x.a=some (.lst (x.xs.map V.int)):=by
       have hx1:=hB.rx x hxm;obtain⟨_,⟨_,m2,m3,_,m5,_⟩,_,_⟩:=hB.rh.no (hB.rh.nb (hB.ow.2.2 x hxm));exact fr _ _ (kp5 _ _ hx1 m5 m3 m2) (LC hx1 hB.hd (λz=>nomatch z)) (LC hx1 hB.sh (λz=>nomatch z))
      refine⟨_,.inr ⟨_,k2 0 y,a',.inl hd,rfl,ha',hg.symm⟩,x.a,rfl,_,.inl (QC.of hxG),λla hla=>?_⟩;obtain⟨s6,g6⟩:=ZE (o:=.lst (x.xs.map V.int)) hla;have nown:=hR.ex hla;have hG1:G1 la=none:=by
       cases e9:G1 la with
       |none=>rfl
       |some o=>
        obtain⟨_,⟨_,m2,m3,_,m5,_⟩,_,_⟩:=hR.no nown;rw[fr la o (kp5 la o e9 m5 m3 m2) (bD hd hla).symm (bD hs hla).symm] at hla;cases hla
      have lnr:la≠rd:=(bD hd hla).symm;have lnt:la≠td:=(bD hs hla).symm;have lnw:la∉nw.map Rw.a:=λq=>by
       obtain⟨w,hw,e9⟩:=bA.mp q;rw[<-e9,(hx w hw).1] at hla;cases hla
      generalize jC G la (.lst (x.xs.map V.int))=G6 at *;refine⟨_,ZC.of (s6 _ _ ha'),_,rfl,λp1 hp1=>?_⟩;obtain⟨s7,g7⟩:=ZE (o:=.tup [V.int 1,V.int y]) hp1;obtain⟨hF',nwq⟩:=hF.step hB.rk hxj hq lnw;have hR7:=(hR.same s6).same s7;have hd7:=s7 _ _ (s6 _ _ hd);have er:JC (iE (rs++nw)) (k2 1 y) (.ref la)=iE (rs++(nw++[⟨k2 1 y,la,x.xs⟩])):=by
       rw[sJ _ (y9 λw hw=>(dA.mp hw).elim (λq=>(hB.n1 htk0).2 w q y) (nwq w))];unfold iE;rw[<-zB,gA (l₂:=[_])];rfl
      generalize jC G6 p1 (.tup [V.int 1,V.int y])=G7 at *;refine⟨_,.inr ⟨_,k2 1 y,p1,hd7,rfl,g7,by unfold iE;rw[cA,oA];omega,rfl⟩,?_⟩;rw[er];have k8:Kd rd G7 (jC G7 rd (.dT (iE (rs++(nw++[⟨k2 1 y,la,x.xs⟩]))))):=sE;have g8:jC G7 rd (.dT (iE (rs++(nw++[⟨k2 1 y,la,x.xs⟩])))) rd=_:=IC;have hR8:=hR7.kd hd7 (hR7.nb hB.ow.1) (.inr (.inl ⟨_,rfl⟩)) k8 g8;generalize jC G7 rd (.dT (iE (rs++(nw++[⟨k2 1 y,la,x.xs⟩]))))=G8 at *;have ha8:=k8 _ _ (s7 _ _ (s6 _ _ ha')) (nkd ha (λο z=>nomatch z)).1;have hs8:=k8 _ _ (s7 _ _ (s6 _ _ hs)) hB.ne.symm;obtain⟨k,hk9⟩:=hN x hxm;have hv:=hB.tn.nb.mpr ⟨k,hk9,rfl⟩;rw[hq] at hv;have hv2:=hK.e (k2 0 y) λy z=>by have:=(EE z).1;omega
      refine⟨_,.inr ⟨ks,k2 0 y,a',.inl hs8,rfl,ha8,(hv2.trans hv).symm⟩,_,ZC.of ha8,_,rfl,λp2 hp2=>?_⟩;obtain⟨s9,g9⟩:=ZE (o:=.tup [V.int 1,V.int y]) hp2;have hs9:=s9 _ _ hs8;generalize jC G8 p2 (.tup [V.int 1,V.int y])=G9 at *;refine⟨_,.inr ⟨ks,k2 1 y,p2,hs9,rfl,g9,⋯,rfl⟩,?_⟩;have k10:Kd td G9 (jC G9 td (.dT (JC ks (k2 1 y) (V.int (τ k))))):=sE;have g10:jC G9 td (.dT (JC ks (k2 1 y) (V.int (τ k)))) td=_:=IC;have hR9:=hR8.same s9;have hR10:=hR9.kd hs9 (hR9.nb hB.ow.2.1) (.inr (.inl ⟨_,rfl⟩)) k10 g10;generalize jC G9 td (.dT (JC ks (k2 1 y) (V.int (τ k))))=G10 at *;refine⟨hR10,nw++[⟨k2 1 y,la,x.xs⟩],k10 _ _ (s9 _ _ g8) hB.ne,λw hw=>?_,hF',by rw[oA];show nw.length+1<=j+1;omega,_,g10,by rw[htk];exact hK.step hv,oU.2 hnk,?_,λc o h n1 n2=>k10 _ _ (s9 _ _ (k8 _ _ (s7 _ _ (s6 _ _ (fr c o h n1 n2))) n1)) n2⟩
      ·rcases dA.mp hw with q|q
       ·obtain⟨w1,w2,w3⟩:=hx w q;exact⟨k10 _ _ (s9 _ _ (k8 _ _ (s7 _ _ (s6 _ _ w1)) (LC w1 hd (λz=>nomatch z)))) (LC w1 hs (λz=>nomatch z)),w2,w3⟩
       ·rw[aA.mp q];exact⟨k10 _ _ (s9 _ _ (k8 _ _ (s7 _ _ g6) lnr)) lnt,hG1,nown⟩
      ·have:=CQ (kvs:=ks) (k:=k2 1 y) (v:=V.int (τ k));omega
     ·rw[fA (λz=>c0 (by injection z))];exact⟨hR,nw,hd,hx,hF.skip hxj hq c0,⋯,ks,hs,by rw[htk];exact hK.skip c0,hnk,⋯,fr⟩
    ·rintro⟨v11,nw,ks,rfl,hR,hd,hx,hF,hnl,hs,hK,hnk,hkl,fr⟩;rw[<-Paired.length hks,cA] at hF;have hK:Fk 1 0 (rs.map Rw.q) kvs ks:=by
      rw[<-Paired.length hks,VA] at hK;exact hK
     obtain⟨B',hB',hN'⟩:=hB.forked hN htk0 ht he hek (hen.trans t1) hR hd hx hF hs hK hnk λc o h nc n1 n2=>by
      obtain⟨_,⟨_,m2,m3,_,m5,_⟩,_,_⟩:=hB.rh.no (hB.rh.nb nc);exact fr _ _ (kp5 c o h m5 m3 m2) n1 n2
     rfl';exact⟨_,B',tks++[⟨1,tp,t.rs⟩],by rw[oA];show (2:Int)=((tks.length+1:Nat):Int);omega,rfl,_,_,_,_,_,_,hB',hN',λh=>⋯⟩
   ·rw[fA ci];exact⟨_,B,tks,rfl,rfl,_,_,_,_,_,_,hB,hN,λh=>htk ⋯⟩
  clear hB hN htk;rintro⟨v11,B,tks,made,S,es,rs,kvs,τ,rfl,hB,hN,htk⟩;rfl';refine⟨G0,B,r,z,l,fn,gr,tks,made,S,es,rs,rd,td,kvs,τ,i,c,wa,0,w1,w2,rfl,hB,hN,gwa,⋯,⋯,hmo,⋯,λB' made' S' es' rs' kvs' τ' G4 hB' hN'=>⟨_,rfl,wD ?_⟩⟩;clear hB hN;have hlv:=hB'.tn.live hB'.pc hB'.rh.s.nn hB'.nn hB'.rh.ux;have hkl:=hB'.kl ⋯;have hin:=hB'.tn.ints;have hsl9:=hB'.sl;refine⟨td,(by intro o u;rw[zQ,htdH];exact λz=>nomatch z),?_⟩;unfold oF TF pD;rfl';obtain⟨dx5,h5⟩:=hB'.rh.s.me;refine⟨dx5,_,h5,QE ∅,r,made',S',rfl,hB'.rh.s,kvs',hB'.sh,λo D hD=>?_⟩;have hk2:∀b u,G4 b=some u->b≠td->jC G4 td (.frz o (.dT kvs')) b=some u:=λb u h hb=>by rw[vC hb];exact h
  have ha2:jC G4 td (.frz o (.dT kvs')) td=some (.frz o (.dT kvs')):=IC;generalize jC G4 td (.frz o (.dT kvs'))=F2 at *;have hDa:D≠td:=λz=>by rw[z,ha2] at hD;cases hD
  have hD0:G4 D=none:=by
   cases e:G4 D with
   |none=>rfl
   |some u=>rw[hk2 D u e hDa] at hD;cases hD
  refine b6 (λj ys σ H'=>∃v0,σ=[v0,some (.ref td)]/\(∀b u,G4 b=some u->b≠td->H' b=some u)/\H' td=some (.frz o (.dT kvs'))/\ys=((kvs'.take j).map λkv=>tI kv.2).map V.int/\H' D=some (.lst ys)) ⟨_,rfl,λb u h hb=>?_,?_,rfl,IC⟩ (λj ys σ H' _ zz=>by obtain⟨_,zz⟩:=zz;exact zz.2.2.1) (λj k x' b' ys σ H' hi hb'=>?_) (λys σ H'=>?_)
  ·rw[vC (bD h hD0)];exact hk2 b u h hb
  ·rw[vC (Ne.symm hDa)];exact ha2
  ·rintro⟨v0,rfl,hk,ha,rfl,hD'⟩;have hil9:=(IA.mp hi).1;have htk:kvs'.take (j+1)=kvs'.take j++[(k,x')]:=by rw[NA,hi];rfl
   have hx':=hin _ (JA hi);have hvk:gC kvs' k=some x':=(nH hB'.tn.nk).mpr (JA hi);rfl';refine⟨x',.inr ⟨kvs',k,b',.inr ⟨o,ha⟩,rfl,hb',hvk.symm⟩,hD',by rw[cA,cA,cB];omega,λb u h hb=>?_,?_,?_⟩
   ·rw[vC (bD h hD0)];exact hk b u h hb
   ·rw[vC (Ne.symm hDa)];exact ha
   ·rw[htk,gA,gA,show x'=V.int (tI x') from hx'];rfl
  ·rintro⟨v0,rfl,hk,ha,rfl,hD'⟩;rw[VA] at hD';refine⟨kvs'.map (λkv=>tI kv.2),QC.of hD',by rw[cA];omega,λl9 hl9=>⟨_,rfl,by rw[hlv];omega,?_⟩⟩;have s9:=(ZE (o:=EG l9 (kG (kvs'.map λkv=>tI kv.2))) hl9).1;have h9:=s9 _ _ ha;have s5:∀b u,G4 b=some u->b≠td->jC H' l9 (EG l9 (kG (kvs'.map λkv=>tI kv.2))) b=some u:=λb u h hb=>s9 _ _ (hk b u h hb);generalize jC H' l9 (EG l9 (kG (kvs'.map λkv=>tI kv.2)))=F3 at *;rw[hlv];refine⟨_,_,rfl,?_⟩;rw[nA rfl];refine⟨_,rfl,wD ?_⟩;rw[GR h9];have hB5:=hB'.same (H':=jC F3 td (.dT kvs')) λb u h=>by
    by_cases hb:b=td
    ·rw[hb,hB'.sh] at h;rw[hb,IC];exact h
    ·rw[vC hb];exact s5 b u h hb
   refine⟨G0,B',r,z,l,fn,gr,tks,made',S',es',rs',rd,td,kvs',τ',_,rfl,hB5,⋯,⋯,λH9' s7=>⟨_,rfl,wD ?_⟩⟩;exact⟨_,_,_,B',tks,rfl,rfl,rfl,rfl,_,_,_,_,_,_,hB5.same s7,hN',λh=>htk ⋯⟩
 ·rintro⟨v9,v10,v11,B,tks,made,S,es,rs,kvs,τ,rfl,hB,hN,htk⟩;obtain⟨dx,h1⟩:=hB.rh.s.me;rw[cA] at hB;rfl';exact⟨dx,_,h1,QE ∅,Z9 hB hN ⋯ λS' es' ks τ' H3 hB3 hN3=>⟨_,rfl,xD ⟨G0,B,r,z,l,fn,gr,tks,made,S',es',rs,rd,td,ks,τ',_,rfl,hB3,⋯,⋯,λH' ο=>qq H'⟩⟩⟩
end
theorem AU {l:W.OpenLaw} {q:Program} {loose:List Str} {XP:(Str->Option Value)->Heap->Prop} {YP:World->Heap->Prop} {d:DefRec} {K:Params->W.Frag} (hn:l.most=some 63) (hdf:d.params.defaults=[]) (hdn:d.name="law")
  (hY:∀(w:World) (h:Heap),YP w h->(K w.params).In h)
  (F:∀(w:World) (mg:Str->Option Value) (h:Heap),(K w.params).In h->h.Ns mainGlobals mg->∃A:RC,fD (K w.params) mg A):
  W.WalkO q loose XP YP l.row.toRowW d [] (λf vs=>PySem.call f vs):=by
 refine L2.md (n:=63) (k:=16+1) (x:="_law_script") (CX:=λw=>iG l.prog w) (sp:=λw=>rK (K w.params)) hn (by decide) hdf ⟨rfl,by decide,by decide⟩ hY ?_ (λο ο a ns hl ο hS=>⟨a,ns,rfl,hS,hl,λο=>rfl⟩) λ_ _ _ _ _ ⟨_,_,_,_,_,_,_,_,_,_,z⟩=>z;intro w mg fa h KX G hmg;rw[hdn] at hmg;obtain⟨A,T⟩:=F w mg h KX G;obtain⟨f,fd,e,Fn,hb⟩:=T.Ml;have e0:=hmg.symm.trans e;cases e0;exact⟨fd,hb,λbase ο ο=>Fn.okE bH (λvs H Q E z=>by obtain⟨a,ns,rfl,_⟩:=z;rfl) (mi (P:=l.prog) (w:=w) (base:=base) T)⟩
end Pf
open PySem PySem.W PyProof.Rows
set_option maxRecDepth 100000 in
set_option maxHeartbeats 0 in
theorem PySem.Challenge.cw_frameland_k55_folded_rooms_holds : PySem.Challenge.rw_frameland_k55_folded_rooms.Holds := by
 w_on;o_law
 refine holds_open (q:=Pf.vw) (loose:=[]) (Xt:=λs=>xlAt Pf.vw [] s&&recOk (RowW.records (PySem.Challenge.rw_frameland_k55_folded_rooms).row.toRowW) s) (XP:=XL Pf.vw []) (Yf:=Hook.obs (kHook Pf.Kf Pf.uI Pf.FP)) (Ya:=Hook.val (kHook Pf.Kf Pf.uI Pf.FP)) (YP:=Hook.says (kHook Pf.Kf Pf.uI Pf.FP)) (N:=(12+(1+(2611+(6385))))) Pf.left (Hook.of (kHook Pf.Kf Pf.uI Pf.FP)) (Hook.keeps (kHook Pf.Kf Pf.uI Pf.FP)) (λs e=>xl_of s (Bool.and_eq_true_iff.mp e).1) XL.keeps (by rfl) (by rfl) (by rfl) (λs e=>recFacts_of (Bool.and_eq_true_iff.mp e).2) (by rfl) (by first|assumption|decide+kernel) (by decide+kernel) ⟨rfl,rfl,rfl,rfl,rfl,by decide+kernel⟩ ?hw ?hc
 case hw=>w_witness2
 k_fill
 refine Pf.AU (l:=PySem.Challenge.rw_frameland_k55_folded_rooms) rfl rfl rfl (λw h Y=>PySem.W.kIn_of Y) ?F
 case F=>
  intro w mg h KX G;refine' Pf.vL KX G ?_ ?_ ?_ ?_ ?_ ?_ ?_ ?_ ?_ ?_ ?_ ?_ ?_ ?_ ?_ ?_ ?_ ?_ ?_ ?_ ?_ ?_ ?_ ?_ ?_ ?_ ?_ ?_ ?_ ?_ ?_ ?_ (.mk ?_ ?_ ?_ ?_) (.mk ?_ ?_ ?_ ?_) (.mk ?_ ?_ ?_ ?_) (.mk ?_ ?_ ?_ ?_) (.mk ?_ ?_ ?_ ?_) (.mk ?_ ?_ ?_ ?_) (.mk ?_ ?_ ?_ ?_) (.mk ?_ ?_ ?_ ?_) (.mk ?_ ?_ ?_ ?_) (.mk ?_ ?_ ?_ ?_) (.mk ?_ ?_ ?_ ?_) (.mk ?_ ?_ ?_ ?_) (.mk ?_ ?_ ?_ ?_) (.mk ?_ ?_ ?_ ?_) (.mk ?_ ?_ ?_ ?_) (.mk ?_ ?_ ?_ ?_) (.mk ?_ ?_ ?_ ?_) (.mk ?_ ?_ ?_ ?_) (.mk ?_ ?_ ?_ ?_) ⟨?_,?_,?_,?_⟩ ?_ (.mk ?_ ?_ ?_ ?_ ?_ ?_ ?_) ?_ ?_ ?_ ?_ ?_ ?_ (.mk ?_ ?_ ?_ ?_ ?_) (.mk ?_ ?_ ?_ ?_ ?_) (.mk ?_ ?_ ?_ ?_ ?_) (.mk ?_ ?_ ?_ ?_ ?_) (.mk ?_ ?_ ?_ ?_ ?_) (.mk ?_ ?_ ?_ ?_ ?_) (.mk ?_ ?_ ?_ ?_ ?_) (.mk ?_ ?_ ?_ ?_ ?_) (.mk ?_ ?_ ?_ ?_ ?_) ⟨?_,?_,?_,?_⟩ ?_ ?_ ?_ (.mk ?_ ?_ ?_ ?_ ?_ ?_ ?_) (.mk ?_ ?_ ?_ ?_ ?_) (.mk ?_ ?_ ?_ ?_ ?_) ?_ ?_ ?_ ?_ ?_ ?_ (.mk ?_ ?_ ?_ ?_ ?_) (.mk ?_ ?_ ?_ ?_ ?_) (.mk ?_ ?_ ?_ ?_ ?_) (.mk ?_ ?_ ?_ ?_ ?_) (.mk ?_ ?_ ?_ ?_ ?_) (.mk ?_ ?_ ?_ ?_ ?_) (.mk ?_ ?_ ?_ ?_ ?_) (.mk ?_ ?_ ?_ ?_ ?_) (.mk ?_ ?_ ?_ ?_ ?_) ⟨?_,?_,?_,?_⟩ ?_ ?_ ?_ ?_ ?_ ?_ ?_ ?_ (.mk ?_ ?_ ?_ ?_ ?_ ?_ ?_) (.mk ?_ ?_ ?_ ?_ ?_) (.mk ?_ ?_ ?_ ?_ ?_) ?_ ?_ ?_ ?_ ?_ ?_ (.mk ?_ ?_ ?_ ?_ ?_) (.mk ?_ ?_ ?_ ?_ ?_) (.mk ?_ ?_ ?_ ?_ ?_) (.mk ?_ ?_ ?_ ?_ ?_) (.mk ?_ ?_ ?_ ?_ ?_) (.mk ?_ ?_ ?_ ?_ ?_) (.mk ?_ ?_ ?_ ?_ ?_) (.mk ?_ ?_ ?_ ?_ ?_) (.mk ?_ ?_ ?_ ?_ ?_) (.mk ?_ ?_ ?_ ?_ ?_) (.mk ?_ ?_ ?_ ?_ ?_) (.mk ?_ ?_ ?_ ?_ ?_) (.mk ?_ ?_ ?_ ?_ ?_) (.mk ?_ ?_ ?_ ?_ ?_) ⟨?_,?_,?_,?_⟩ ?_ ?_ ?_ ?_ ?_ ?_ (.mk ?_ ?_ ?_ ?_ ?_ ?_ ?_) (.mk ?_ ?_ ?_ ?_ ?_) (.mk ?_ ?_ ?_ ?_ ?_) (.mk ?_ ?_ ?_ ?_ ?_) (.mk ?_ ?_ ?_ ?_ ?_) (.mk ?_ ?_ ?_ ?_ ?_) ?g0 ?g1 ?g2 ?g3 ?g4 ?g5 ?g6 ?g7 ?g8 ?g9 (.mk ?_ ?_ ?_ ?_)
  all_goals first|k_is|skip
  (case g0=>k_exc)
  (case g1=>k_exc)
  (case g2=>k_exc)
  (case g3=>k_exc)
  (case g4=>k_exc)
  (case g5=>k_exc)
  (case g6=>k_exc)
  (case g7=>k_exc)
  (case g8=>k_exc)
  (case g9=>k_exc)
