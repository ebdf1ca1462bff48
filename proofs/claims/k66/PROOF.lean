import PyProof.Rows.All
import Wide.All
import OpenK.AllK
import Wide.FinOn
import Lean
import PyProof.EqAt
import PyProof.EqKinds
import PyProof.TupleCall
import PyProof.NeKinds
import PyProof.EnumMake
import PyProof.EnumStmt
import PyProof.LayNew
import KE.KDictLaws
import KE.KDictSum
import KE.LcSums
import PyProof.Rows.SumAny
import PyProof.Rows.SortWalk
import PyProof.DictWalks
import PyProof.Rows.SortRev
import KE.KRevIter
import KE.KIntText
import PyProof.CallStr
import PyProof.StrCalls2
import PyProof.Rows.StrJoin2
import PyProof.StrWalks
import PyProof.Rows.Range3
import PyProof.Rows.MatchSeqLen
import PyProof.Rows.SetFrom
import PyProof.SetRoads
import PyProof.TupleKey
import PyProof.IsRules
import PyProof.Rows.SortShell
import PyProof.Rows.SortRuns
import PySem.Challenge.RW_frameland_k66_folded_sheets
set_option Elab.async false
set_option linter.all false
set_option genSizeOf false
set_option bootstrap.genMatcherCode false
set_option maxRecDepth 100000
local macro_rules | `(tactic| omega) => `(tactic| first | decide | lia | omega (config := {}))
def aA:=@List.getElem?_eq_some_iff
def bA:=@List.getElem?_eq_getElem
def cA:=@Option.some.inj
def dA:=@List.mem_of_getElem?
def fA:=@if_neg
def gA:=@PySem.wpAny_bind
def iA:=@if_pos
def jA:=@List.mem_cons_of_mem
def kA:=@List.mem_singleton
def lA:=@List.length_map
def nA:=@List.length_append
def oA:=@Bool.false_ne_true
def pA:=@Nat.le_refl
def qA:=@List.getElem?_set
def rA:=@PyProof.Rows.wpS_bind
def sA:=@PySem.Heap.get?_push_of_some
def vA:=@decide_eq_false
def wA:=@List.mem_cons_self
def xA:=@List.mem_cons
def yA:=@PyProof.Rows.wpS_pure
def zA:=@Array.length_toList
def AA:=@decide_eq_true
def BA:=@List.length_set
def CA:=@List.map_cons
def DA:=@PySem.wpAny_pure
def EA:=@List.getElem?_set_self
def FA:=@List.length_replicate
def GA:=@List.mem_append
def HA:=@PySem.Heap.lt_size
def IA:=@List.mem_append_right
def JA:=@List.size_toArray
def KA:=@List.append_assoc
def LA:=@Array.getElem?_toList
def MA:=@List.pairwise_append
def NA:=@List.getElem?_map
def OA:=@PySem.Heap.get?_push_size
def QA:=@Bool.false_eq_true
def RA:=@PyProof.Rows.boot_isinstance
def SA:=@List.flatMap_cons
def UA:=@Nat.lt_of_lt_of_le
def VA:=@Nat.ne_of_lt
def WA:=@List.length_cons
def XA:=@List.length_take
def YA:=@List.perm_middle
def ZA:=@List.length_range
def aB:=@List.map_append
def cB:=@List.pairwise_iff_getElem
def dB:=@List.mem_iff_getElem?
def fB:=@List.nodup_append
def gB:=@List.nodup_cons
def iB:=@List.eq_of_mem_replicate
def jB:=@PySem.PassesOwn.leaving
def kB:=@Bool.and_eq_true
def lB:=@List.not_mem_nil
def mB:=@List.take_length
def nB:=@Int.le_trans
def oB:=@Array.toList_append
def pB:=@List.take_add_one
def qB:=@PyProof.Rows.wpS_forRange
def rB:=@List.Perm.refl
def sB:=@List.getElem?_append_right
def vB:=@Int.toNat_natCast
def wB:=@List.mem_append_left
def xB:=@List.pairwise_cons
def yB:=@List.set_getElem_self
def zB:=@Int.zero_add
def AB:=@decide_eq_true_eq
def BB:=@PyProof.Rows.wpS_mono
def CB:=@Int.le_of_lt
def DB:=@List.mem_map
def EB:=@Nat.le_trans
def FB:=@PyProof.Rows.boot_list
def GB:=@Array.getElem?_eq_getElem
def HB:=@if_false
def IB:=@PySem.wpAny_holding
def JB:=@PySem.Heap.get?_update_other
def KB:=@of_decide_eq_true
def LB:=@PySem.wpAny_mono
def MB:=@Bool.eq_iff_iff
def NB:=@Int.le_refl
def OB:=@List.getElem?_zip_eq_some
def PB:=@List.mem_of_find?_eq_some
def QB:=@of_decide_eq_false
def RB:=@List.set_set
def SB:=@Nat.lt_irrefl
def UB:=@Nat.zero_add
def VB:=@PySem.wpAny_typeNameOfWhole_keyiter
def WB:=@List.pairwise_singleton
def XB:=@List.find?_cons
def YB:=@beq_iff_eq
def ZB:=@List.flatMap_append
def aC:=@List.length_zipWith
def bC:=@List.replicate_succ
def cC:=@Array.getD_eq_getD_getElem?
def dC:=@List.map_nil
def eC:=@Option.map_eq_some_iff
def fC:=@Nat.zero_le
def gC:=@List.filter_cons
def iC:=@List.lookup_cons
def jC:=@List.append_of_mem
def kC:=@List.mem_filterMap
def lC:=@List.nodup_nil
def mC:=@List.take_zero
def nC:=@PySem.Heap.get?_update_self
def oC:=@List.getElem?_eq_none
def pC:=@List.findIdx?_eq_some_iff_getElem
def qC:=@List.drop_eq_getElem_cons
def rC:=@List.getElem?_eq_none_iff
def sC:=@List.mem_or_eq_of_mem_set
def uC:=@List.perm_append_left_iff
def vC:=@Int.emod_nonneg
def wC:=@List.append_nil
def xC:=@Nat.not_lt_zero
def yC:=@PySem.wpAny_passesOwn
def zC:=@Array.toList_push
def AC:=@List.take_sublist
def BC:=@PySem.Heap.SameBut.update
def CC:=@beq_eq_false_iff_ne
def DC:=@List.mem_range
def EC:=@Int.emod_lt_of_pos
def FC:=@Int.not_lt
def GC:=@List.filter_append
def HC:=@PySem.Obj.data_mapFields
def IC:=@List.any_cons
def JC:=@List.Perm.append_left
def KC:=@List.getElem?_zipWith
def LC:=@PySem.Obj.isFreed_of_fields
def MC:=@List.drop_sublist
def NC:=@List.flatten_cons
def OC:=@Option.some.injEq
def QC:=@PyProof.Rows.callWith_type1
def RC:=@if_true
def SC:=@PySem.wpAny_newObj_type
def TC:=@PySem.wpAny_truthy_bool
def UC:=@Array.getElem?_eq_some_iff
def VC:=@Array.perm_iff_toList_perm
def WC:=@PySem.wpAny_call_entry
def YC:=@Classical.byContradiction
def ZC:=@Decidable.byContradiction
def aD:=@List.filterMap_eq_nil_iff
def bD:=@List.getElem?_append_left
def cD:=@List.filterMap_cons
def dD:=@PyProof.Rows.boot_sorted
def eD:=@List.cons.injEq
def fD:=@List.mem_filter
def gD:=@List.nil_append
def iD:=@PySem.wpAny_Call_Name_kw
def jD:=@PySem.wpAny_rule
def kD:=@List.getElem?_replicate
def lD:=@PyProof.Rows.boot_tuple
def mD:=@Sum.inl.inj
def nD:=@PySem.Heap.get?_push_ne
def pD:=@List.drop_of_length_le
def qD:=@List.ext_getElem?
def rD:=@Nat.lt_succ_of_lt
def sD:=@PyProof.Rows.boot_bool
def tD:=@PySem.atKey_none_of_get
def uD:=@decide_false
def vD:=@PySem.wpAny_dictEntries
def wD:=@PySem.wpAny_setField
def xD:=@Array.getElem?_setIfInBounds_ne
def yD:=@List.length_filter_le
def zD:=@List.take_append_drop
def AD:=@PySem.Heap.size_update
def BD:=@List.getElem_mem
def CD:=@PyProof.Rows.wpS_modify
def DD:=@Array.toList_extract
def ED:=@Array.toList_reverse
def FD:=@PySem.Calls.evalArgs_plain
def GD:=@List.mem_of_mem_drop
def HD:=@decide_true
def ID:=@PySem.sizeLine_eq
def JD:=@PySem.wpAny_execs_nil
def KD:=@PyProof.Rows.wpS_get
def LD:=@PySem.Calls.spliced_cons
def MD:=@Int.fdiv_eq_ediv_of_nonneg
def ND:=@List.drop_zero
def OD:=@List.findSome?_eq_none_iff
def PD:=@List.setIfInBounds_toArray
def QD:=@and_true
def RD:=@or_false
def SD:=@List.findIdx?_eq_none_iff
def TD:=@Option.isNone_iff_eq_none
def UD:=@List.Sublist.refl
def VD:=@List.any_eq_false
def WD:=@List.pairwise_map
def XD:=@Sum.inr.inj
def YD:=@not_false_eq_true
def ZD:=@List.all_cons
def aE:=@PySem.wpAny_newList
def bE:=@PySem.wpAny_standAt
def cE:=@List.mem_flatMap
def dE:=@Nat.lt_succ_self
def eE:=@Prod.ext
def fE:=@PyProof.Rows.wpS_lift
def gE:=@Nat.le_of_lt
def iE:=@PySem.codeAny_mono
def jE:=@List.forIn_cons
def kE:=@List.of_mem_zip
def lE:=@List.range_succ
def mE:=@Bool.false_and
def nE:=@Nat.le_succ
def oE:=@congrFun
namespace L2
open PySem PySem.Spec PyProof.Rows
noncomputable abbrev Key:=Sum Int Str
noncomputable def NH:Key->Value->Bool
 |.inl k,v=>Value.isInt k v
 |.inr x,v=>Value.isStrOf x v
noncomputable def mS (w:World):Key->Int
 |.inl k=>hashInt k
 |.inr x=>hashStr w x
theorem zK:∀{k:Key} {v:Value},NH k v=true->(∃i t,k=Sum.inl i/\v=Value.int i t)\/(∃x t,k=Sum.inr x/\v=Value.str x t)
 |.inl i,v,h=>by
  obtain⟨t,e⟩:=Value.isInt_shape (k:=i) (v:=v) h
  exact .inl ⟨i,t,rfl,e⟩
 |.inr x,v,h=>by
  obtain⟨t,e⟩:=Value.isStrOf_shape (x:=x) (v:=v) h
  exact .inr ⟨x,t,rfl,e⟩
theorem N3 (i:Int) (t:Tok):NH (.inl i) (.int i t)=true:=by simp[NH,Value.isInt]
theorem O3 (x:Str) (t:Tok):NH (.inr x) (.str x t)=true:=by simp[NH,Value.isStrOf]
theorem oM (a b:Int):decide ((Sum.inl a:Key)=Sum.inl b)=(a == b):=by
 by_cases e:a=b
 ·subst e;simp
 ·have h:¬(Sum.inl a:Key)=Sum.inl b:=λq=>e (mD q)
  rw[vA h]
  exact (CC.mpr e).symm
theorem pM (a b:Str):decide ((Sum.inr a:Key)=Sum.inr b)=decide (a=b):=by
 by_cases e:a=b
 ·subst e;simp
 ·have h:¬(Sum.inr a:Key)=Sum.inr b:=λq=>e (XD q)
  rw[vA h,vA e]
theorem qM (a:Int) (b:Str):decide ((Sum.inl a:Key)=Sum.inr b)=false:=vA (λq=>nomatch q)
theorem rM (a:Str) (b:Int):decide ((Sum.inr a:Key)=Sum.inl b)=false:=vA (λq=>nomatch q)
noncomputable def cF (prog:Program) (w:World):PySem.KeyKind prog w Key where
 is:=NH
 hash:=mS w
 inj:=λv a b ha hb=>by
  rcases zK ha with ⟨i,t,rfl,rfl⟩|⟨x,t,rfl,rfl⟩
  ·rcases zK hb with ⟨j,u,rfl,e⟩|⟨y,u,rfl,e⟩
   ·injection e with e1 _;rw[e1]
   ·exact nomatch e
  ·rcases zK hb with ⟨j,u,rfl,e⟩|⟨y,u,rfl,e⟩
   ·exact nomatch e
   ·injection e with e1 _;rw[e1]
 byValue:=λk v h=>by
  rcases zK h with ⟨i,t,rfl,rfl⟩|⟨x,t,rfl,rfl⟩<;>rfl
 pyHash:=λhv h=>by
  rcases zK hv with ⟨i,t,rfl,rfl⟩|⟨x,t,rfl,rfl⟩
  ·exact wpAny_pyHash_int h
  ·exact wpAny_pyHash_str h
 eqBool:=λhu hv h=>by
  rcases zK hu with ⟨i,t,rfl,rfl⟩|⟨x,t,rfl,rfl⟩
  ·rcases zK hv with ⟨j,u,rfl,rfl⟩|⟨y,u,rfl,rfl⟩
   ·rw[oM] at h;exact wpAny_eqBool_int h
   ·rw[qM] at h;exact SeqAt.EqAt.int_str i t y u _ _ _ _ h
  ·rcases zK hv with ⟨j,u,rfl,rfl⟩|⟨y,u,rfl,rfl⟩
   ·rw[rM] at h;exact SeqAt.EqAt.str_int x t j u _ _ _ _ h
   ·rw[pM] at h;exact wpAny_eqBool_str h
 «strs» :=λk x t v h=>by
  rcases zK h with ⟨i,u,rfl,e⟩|⟨y,u,rfl,e⟩
  ·exact nomatch e
  ·injection e with e1 _
   subst e1
   cases v<;>rfl
theorem P3 (prog:Program) (w:World) (i:Int) (t:Tok):(cF prog w).is (.inl i) (.int i t)=true:=N3 i t
theorem Q3 (prog:Program) (w:World) (x:Str) (t:Tok):(cF prog w).is (.inr x) (.str x t)=true:=O3 x t
end L2
namespace L2
open PySem PySem.Spec PyProof.Rows
inductive V where
 |non|bl (b:Bool)|int (i:Int)|str (x:Str)|byt (b:Array UInt8)|flt (b:UInt64)|ref (a:Addr)|ty (n:String)
 deriving DecidableEq
noncomputable def FE:V->Value->Prop
 |.non,u=>u=Value.none
 |.bl b,u=>u=Value.bool b
 |.int i,u=>∃t,u=Value.int i t
 |.str x,u=>∃t,u=Value.str x t
 |.byt b,u=>∃t,u=Value.bytes b t
 |.flt b,u=>∃t,u=Value.float b t
 |.ref a,u=>u=Value.ref a
 |.ty n,u=>u=Value.type n
noncomputable abbrev BE:List V->List Value->Prop:=Paired FE
theorem BE.length {xs:List V} {us:List Value} (r:BE xs us):xs.length=us.length:=Paired.length r
theorem BE.get:∀{xs:List V} {us:List Value} {i:Nat} {x:V},BE xs us->xs[i]?=some x->∃u,us[i]?=some u/\FE x u
 |_,_,_,_,.nil,e=>by simp at e
 |_,_,0,_,.cons r _,e=>by simp at e;subst e;exact⟨_,rfl,r⟩
 |_,_,i+1,x,.cons _ t,e=>by
  obtain⟨u,h1,h2⟩:=BE.get (i:=i) (x:=x) t (by simpa using e)
  exact⟨u,by simpa using h1,h2⟩
theorem BE.set {x:V} {u:Value} (r:FE x u):∀{xs:List V} {us:List Value} (i:Nat),BE xs us->BE (xs.set i x) (us.set i u)
 |_,_,_,.nil=>.nil
 |_,_,0,.cons _ t=>.cons r t
 |_,_,i+1,.cons q t=>.cons q (BE.set r i t)
theorem BE.append:∀{xs ys:List V} {us ws:List Value},BE xs us->BE ys ws->BE (xs++ys) (us++ws)
 |_,_,_,_,.nil,s=>s
 |_,_,_,_,.cons r t,s=>.cons r (BE.append t s)
theorem BE.take:∀{xs:List V} {us:List Value} (n:Nat),BE xs us->BE (xs.take n) (us.take n)
 |_,_,0,_=>.nil
 |_,_,_+1,.nil=>.nil
 |_,_,n+1,.cons r t=>.cons r (BE.take n t)
theorem BE.drop:∀{xs:List V} {us:List Value} (n:Nat),BE xs us->BE (xs.drop n) (us.drop n)
 |_,_,0,r=>r
 |_,_,_+1,.nil=>.nil
 |_,_,n+1,.cons _ t=>BE.drop n t
noncomputable def IG:Option V->Option Value->Prop
 |some v,some u=>FE v u
 |none,none=>True
 |_,_=>False
noncomputable def KV {κ:Type}:List (κ×V)->List (κ×Value)->Prop:=Paired λ(p:κ×V) (q:κ×Value)=>p.1=q.1/\FE p.2 q.2
noncomputable def kV:Key->V
 |.inl i=>.int i
 |.inr x=>.str x
inductive HO where
 |lst (xs:List V)
 |tup (xs:List V)
 |dK (kvs:List (Key×V))|dT (kvs:List (List Key×V))
 |set (S:Int->Bool) (n:Nat)
 |ins (C dx:Addr) (fs:List (Str×V))
 |own (x:Addr)
 |xd (fs:List (Str×V))
 |met (f x:Addr)
 |rng (lo hi:Int)
 |frz (o:Obj) (u:HO)
 |tbl (ps:Array Value)
 |ext (φ:Heap->Prop)
noncomputable abbrev Hp:=Addr->Option HO
noncomputable def upd (H:Hp) (a:Addr) (o:HO):Hp:=λb=>if b=a then some o else H b
theorem bF {H:Hp} {a:Addr} {o:HO}:upd H a o a=some o:=by unfold upd;rw[iA rfl]
theorem AE {H:Hp} {a b:Addr} {o:HO} (h:b≠a):upd H a o b=H b:=by unfold upd;rw[fA h]
theorem R3 {H:Hp} {a:Addr} {o u:HO}:upd (upd H a o) a u=upd H a u:=by
 funext b;unfold upd;split<;>rfl
theorem qG {H:Hp} {a b:Addr} {o u:HO} (h:H a=some o) (h':H b=some u) (d:o≠u):a≠b:=by
 intro e;subst e;rw[h] at h';exact d (cA h')
theorem NF {H:Hp} {a b:Addr} {o:HO} (h:H a=some o) (h':H b=none):a≠b:=by
 intro e;subst e;rw[h] at h';cases h'
section
variable (P:Program) (w:World)
noncomputable def NE (H:Hp) (h:Heap) (a:Addr):HO->Prop
 |.lst xs=>xs.length<=sizeLine/\∃(its:List Value) (n:Nat),BE xs its/\h.get? a=some {cls:=.type "list",data:=.seq its.toArray n}
 |.tup xs=>xs.length<=sizeLine/\∃its:List Value,BE xs its/\IsTup h a its.toArray
 |.dK kvs=>kvs.length<=sizeLine/\(a == sysModules)=false/\∃vs,KV kvs vs/\h.DictOf (cF P w) a vs
 |.dT kvs=>kvs.length<=sizeLine/\(a == sysModules)=false/\∃xs:List (List Key×Addr×Value),
  Paired (λ(p:List Key×V) (q:List Key×Addr×Value)=>p.1=q.1/\H q.2.1=some (.tup (p.1.map kV))/\FE p.2 q.2.2) kvs xs/\
  ∃o es ep,h.get? a=some o/\o.ExactDict/\o.data=.dict es ep/\es.toList=xs.map (entryOfKey (tupleKind (cF P w)))/\(xs.map (·.1)).Nodup
 |.set S n=>h.SetOf (intKind P w) a S n
 |.ins C dx fs=>H dx=some (.own a)/\fs.length<=1000/\dx≠a/\h.get? a=some (PySem.W.instObj C dx)/\
  ∃mA,h.Ns1 dx mA/\(∀f,IG (fs.lookup f) (mA f))/\PySem.Within mA (fs.map (·.1))
 |.own _=>∃o,h.get? a=some o
 |.xd fs=>∃mA,h.Ns1 a mA/\∀f,IG (fs.lookup f) (mA f)
 |.rng lo hi=>∃t u v,h.get? a=some {cls:=.type "range",data:=.fields #[.int lo t,.int hi u,.int 1 v]}
 |.frz o u=>h.get? a=some o/\NE H h a u
 |.tbl ps=>h.get? a=some {cls:=.none,data:=.fields ps}
 |.met f x=>h.get? a=some (PySem.W.methodObj (.ref f) (.ref x))
 |.ext φ=>φ h/\(∃o,h.get? a=some o)/\∀h1 h2:Heap,φ h1->(∀o,h1.get? a=some o->h2.get? a=some o)->φ h2
noncomputable def rG (H:Hp) (h:Heap):Prop:=∀a o,H a=some o->NE P w H h a o
end
section
variable {P:Program} {w:World} {H H':Hp} {h h':Heap} {a:Addr} {o:HO}
theorem NE.lt (x:NE P w H h a o):a < h.objs.size:=by
 cases o with
 |lst xs=>obtain⟨_,_,_,_,e⟩:=x;exact HA e
 |tup xs=>obtain⟨_,_,_,p⟩:=x;exact p.lt
 |dK kvs=>obtain⟨_,_,_,_,o,_,_,e,_⟩:=x;exact HA e
 |dT kvs=>obtain⟨_,_,_,_,o,_,_,e,_⟩:=x;exact HA e
 |set S n=>obtain⟨o,_,_,_,e,_⟩:=x;exact HA e
 |ins C dx fs=>obtain⟨_,_,_,e,_⟩:=x;exact HA e
 |own y=>obtain⟨_,e⟩:=x;exact HA e
 |xd fs=>obtain⟨_,⟨_,_,_,e,_⟩,_⟩:=x;exact HA e
 |rng lo hi=>obtain⟨_,_,_,e⟩:=x;exact HA e
 |frz ob u=>obtain⟨e,_⟩:=x;exact HA e
 |tbl ps=>exact HA (show h.get? a=some _ from x)
 |met f y=>exact HA (show h.get? a=some _ from x)
 |ext φ=>obtain⟨_,⟨_,e⟩,_⟩:=x;exact HA e
theorem Paired.mapP {α β:Type} {F G:α->β->Prop}:∀{l₁:List α} {l₂:List β},Paired F l₁ l₂->(∀a b,F a b->G a b)->Paired G l₁ l₂
 |_,_,.nil,_=>.nil
 |_,_,.cons r t,f=>.cons (f _ _ r) (Paired.mapP t f)
theorem NE.stay (x:NE P w H h a o) (k:∀b u,(b=a\/H b=some (.own a))->h.get? b=some u->h'.get? b=some u)
  (ho:∀b,H b=some (.own a)->H' b=some (.own a)) (ht:∀b xs,H b=some (.tup xs)->H' b=some (.tup xs)):NE P w H' h' a o:=by
 induction o with
 |lst xs=>obtain⟨z,its,n,r,e⟩:=x;exact⟨z,its,n,r,k _ _ (.inl rfl) e⟩
 |tup xs=>obtain⟨z,its,r,ob,e,c⟩:=x;exact⟨z,its,r,ob,k _ _ (.inl rfl) e,c⟩
 |dK kvs=>obtain⟨z,y,vs,r,ob,es,ep,e,c⟩:=x;exact⟨z,y,vs,r,ob,es,ep,k _ _ (.inl rfl) e,c⟩
 |dT kvs=>
  obtain⟨z,y,xs,r,ob,es,ep,e,c⟩:=x
  exact⟨z,y,xs,Paired.mapP r λp q z=>⟨z.1,ht _ _ z.2.1,z.2.2⟩,ob,es,ep,k _ _ (.inl rfl) e,c⟩
 |set S n=>obtain⟨ob,es,ep,t,e,c⟩:=x;exact⟨ob,es,ep,t,k _ _ (.inl rfl) e,c⟩
 |ins C dx fs=>
  obtain⟨d,z,ne,e,mA,⟨od,es,ep,e2,c⟩,r⟩:=x
  exact⟨ho _ d,z,ne,k _ _ (.inl rfl) e,mA,⟨od,es,ep,k _ _ (.inr d) e2,c⟩,r⟩
 |own y=>obtain⟨ob,e⟩:=x;exact⟨ob,k _ _ (.inl rfl) e⟩
 |xd fs=>obtain⟨mA,⟨od,es,ep,e,c⟩,r⟩:=x;exact⟨mA,⟨od,es,ep,k _ _ (.inl rfl) e,c⟩,r⟩
 |rng lo hi=>obtain⟨t,u,v,e⟩:=x;exact⟨t,u,v,k _ _ (.inl rfl) e⟩
 |frz ob u ih=>obtain⟨e,q⟩:=x;exact⟨k _ _ (.inl rfl) e,ih q⟩
 |tbl ps=>
  have e:h.get? a=some {cls:=.none,data:=.fields ps}:=x
  show h'.get? a=some {cls:=.none,data:=.fields ps}
  exact k a _ (.inl rfl) e
 |met f y=>
  have e:h.get? a=some (PySem.W.methodObj (.ref f) (.ref y)):=x
  show h'.get? a=some (PySem.W.methodObj (.ref f) (.ref y))
  exact k a _ (.inl rfl) e
 |ext φ=>obtain⟨p,⟨o,e⟩,st⟩:=x;exact⟨st _ _ p λo q=>k _ _ (.inl rfl) q,⟨o,k _ _ (.inl rfl) e⟩,st⟩
theorem rG.lt (x:rG P w H h) (e:H a=some o):a < h.objs.size:=(x a o e).lt
theorem rG.fresh (x:rG P w H h) (e:h.objs.size<=a):H a=none:=by
 cases q:H a with
 |none=>rfl
 |some u=>exact absurd (UA (x.lt q) e) (SB _)
theorem rG.kept (x:rG P w H h) (k:∀b u,h.get? b=some u->h'.get? b=some u):rG P w H h':=λa o e=>
 (x a o e).stay (λb u _ q=>k b u q) (λ_ q=>q) λ_ _ q=>q
theorem rG.laid (x:rG P w H h) (k:∀b u,h.get? b=some u->h'.get? b=some u) (hp:h.objs.size<=a) (new:NE P w (upd H a o) h' a o):rG P w (upd H a o) h':=λb u e=>by
 have hn:=x.fresh hp
 by_cases hb:b=a
 ·subst hb;rw[bF] at e;cases e;exact new
 ·rw[AE hb] at e
  exact (x b u e).stay (λc v _ q=>k c v q) (λc q=>by rw[AE (NF q hn)];exact q) λc xs q=>by rw[AE (NF q hn)];exact q
end
noncomputable def Rd (H:Hp) (a:Addr) (u:HO):Prop:=H a=some u\/∃o,H a=some (.frz o u)
theorem Rd.of {H:Hp} {a:Addr} {u:HO} (h:H a=some u):Rd H a u:=.inl h
theorem Rd.ok {P:Program} {w:World} {H:Hp} {h:Heap} {a:Addr} {u:HO} (r:Rd H a u) (x:rG P w H h):NE P w H h a u:=by
 rcases r with r|⟨o,r⟩
 ·exact x a u r
 ·obtain⟨_,q⟩:=x a _ r
  exact q
noncomputable def OO:Option HO->Prop
 |some (.lst _)=>True
 |some (.dK _)=>True
 |some (.dT _)=>True
 |some (.set _ _)=>True
 |some (.ins _ _ _)=>True
 |some (.ext _)=>True
 |_=>False
section
variable {P:Program} {w:World} {H:Hp} {h h':Heap} {x e:Addr} {o':HO}
theorem rG.write (ok:rG P w H h) (mu:OO (H x)) (he:e=x\/H e=some (.own x)) (k:∀b u,b≠e->h.get? b=some u->h'.get? b=some u) (heo:∃u,h'.get? e=some u)
  (new:NE P w (upd H x o') h' x o'):rG P w (upd H x o') h':=λb u q=>by
 have nown:∀c y,H c=some (.own y)->c≠x:=λc y r z=>by subst z;rw[r] at mu;exact mu
 have ntup:∀c xs,H c=some (.tup xs)->c≠x:=λc xs r z=>by subst z;rw[r] at mu;exact mu
 by_cases hb:b=x
 ·subst hb;rw[bF] at q;cases q;exact new
 ·rw[AE hb] at q
  by_cases hbe:b=e
  ·have q':H b=some (.own x):=by
    rcases he with z|z
    ·exact absurd (hbe.trans z) hb
    ·rw[hbe];exact z
   rw[q] at q';cases q'
   obtain⟨v,hv⟩:=heo
   exact⟨v,by rw[hbe];exact hv⟩
  ·refine (ok b u q).stay (λc v hc r=>k c v ?_ r) (λc r=>by rw[AE (nown c b r)];exact r) λc xs r=>by rw[AE (ntup c xs r)];exact r
   rcases hc with rfl|hc
   ·exact hbe
   ·rintro rfl
    rcases he with z|z
    ·exact nown c b hc z
    ·rw[hc] at z;cases z;exact hb rfl
end
structure Un (fs ex:List Addr) (H H':Hp) (h h':Heap):Prop where
 keep:∀b o,h.get? b=some o->H b=none->b∉fs->b∉ex->h'.get? b=some o
 slot:∀b o,h.get? b=some o->H b=none->b∈fs->b∉ex->∃sl,h'.get? b=some {o with slots:=sl}
 free:∀b o,h.get? b=some o->H b=none->b∉ex->H' b=none
 there:∀b o,h.get? b=some o->b∉ex->∃o',h'.get? b=some o'
 tups:∀b xs,H b=some (.tup xs)->H' b=some (.tup xs)
 frzs:∀b o u,H b=some (.frz o u)->H' b=some (.frz o u)
 tbls:∀b ps,H b=some (.tbl ps)->∃more,H' b=some (.tbl (ps++more))
section
variable {fs fs' ex ex':List Addr} {H H1 H2:Hp} {h h1 h2 h':Heap} {a x e:Addr} {o:HO}
theorem Un.any (u:Un fs ex H H1 h h1) {b:Addr} {ob:Obj} (q:h.get? b=some ob) (n:H b=none) (hx:b∉ex):∃sl,h1.get? b=some {ob with slots:=sl}:=by
 by_cases hb:b∈fs
 ·exact u.slot b ob q n hb hx
 ·exact⟨ob.slots,u.keep b ob q n hb hx⟩
theorem Un.trans (a:Un fs ex H H1 h h1) (b:Un fs ex H1 H2 h1 h2):Un fs ex H H2 h h2 where
 keep:=λc ob q n hc hx=>b.keep c ob (a.keep c ob q n hc hx) (a.free c ob q n hx) hc hx
 slot:=λc ob q n hc hx=>by
  obtain⟨sl,e1⟩:=a.slot c ob q n hc hx
  obtain⟨sl',e2⟩:=b.slot c _ e1 (a.free c ob q n hx) hc hx
  exact⟨sl',e2⟩
 free:=λc ob q n hx=>by
  obtain⟨o',e1⟩:=a.there c ob q hx
  exact b.free c o' e1 (a.free c ob q n hx) hx
 there:=λc ob q hx=>by
  obtain⟨o',e1⟩:=a.there c ob q hx
  exact b.there c o' e1 hx
 tups:=λc xs q=>b.tups c xs (a.tups c xs q)
 frzs:=λc ob xs q=>b.frzs c ob xs (a.frzs c ob xs q)
 tbls:=λc ps q=>by
  obtain⟨m1,e1⟩:=a.tbls c ps q
  obtain⟨m2,e2⟩:=b.tbls c _ e1
  exact⟨m1++m2,by rw[e2,Array.append_assoc]⟩
theorem Un.kept (k:∀b u,h.get? b=some u->h'.get? b=some u):Un fs ex H H h h':=
 ⟨λb ob q _ _ _=>k b ob q,λb ob q _ _ _=>⟨ob.slots,k b ob q⟩,λ_ _ _ n _=>n,λb ob q _=>⟨ob,k b ob q⟩,λ_ _ q=>q,λ_ _ _ q=>q,λ_ ps q=>⟨#[],by rw[q];simp⟩⟩
theorem Un.refl:Un fs ex H H h h:=Un.kept λ_ _ q=>q
theorem Un.laid (k:∀b u,h.get? b=some u->h'.get? b=some u) (hp:h.objs.size<=a) (hn:H a=none):Un fs ex H (upd H a o) h h' where
 keep:=λb u q _ _ _=>k b u q
 slot:=λb u q _ _ _=>⟨u.slots,k b u q⟩
 free:=λb u q n _=>by rw[AE (VA (UA (HA q) hp))];exact n
 there:=λb u q _=>⟨u,k b u q⟩
 tups:=λb xs q=>by rw[AE (NF q hn)];exact q
 frzs:=λb u xs q=>by rw[AE (NF q hn)];exact q
 tbls:=λb ps q=>⟨#[],by rw[AE (NF q hn),q];simp⟩
theorem Un.write (mu:OO (H x)) (he:e=x\/H e=some (.own x)) (k:∀b u,b≠e->h.get? b=some u->h'.get? b=some u) (heo:∃u,h'.get? e=some u):Un fs ex H (upd H x o) h h':=by
 have hx:∀b,H b=none->b≠x:=λb n z=>by subst z;rw[n] at mu;exact mu
 have hb:∀b,H b=none->b≠e:=λb n z=>by
  subst z
  rcases he with r|r
  ·exact hx b n r
  ·rw[n] at r;cases r
 have hm:∀b u,H b=some u->¬OO (some u)->b≠x:=λb u q nm z=>by subst z;rw[q] at mu;exact nm mu
 refine⟨λb u q n _ _=>k b u (hb b n) q,λb u q n _ _=>⟨u.slots,k b u (hb b n) q⟩,λb u q n _=>by rw[AE (hx b n)];exact n,λb u q _=>?_,
  λb xs q=>by rw[AE (hm b _ q λz=>z)];exact q,λb u xs q=>by rw[AE (hm b _ q λz=>z)];exact q,λb ps q=>⟨#[],by rw[AE (hm b _ q λz=>z),q];simp⟩⟩
 by_cases hbe:b=e
 ·subst hbe;exact heo
 ·exact⟨u,k b u hbe q⟩
theorem Un.mono (u:Un fs ex H H1 h h1) (hs:∀b∈fs,b∈fs') (hx:∀b∈ex,b∈ex'):Un fs' ex' H H1 h h1:=
 ⟨λb ob q n hb he=>u.keep b ob q n (λz=>hb (hs b z)) λz=>he (hx b z),λ_ _ q n _ he=>u.any q n λz=>he (hx _ z),λb ob q n he=>u.free b ob q n λz=>he (hx b z),λb ob q he=>u.there b ob q λz=>he (hx b z),u.tups,u.frzs,u.tbls⟩
end
noncomputable def trk (h:Heap) (H:Hp):List Addr:=(List.range h.objs.size).filter λa=>(H a).isSome
noncomputable def YH (h:Heap) (H:Hp):Heap:=PySem.W.hideAll h (trk h H)
theorem U3 (h:Heap) (H:Hp):(YH h H).objs.size=h.objs.size:=PySem.W.hideAll_size _ _
theorem V3 {h:Heap} {H:Hp} {b:Addr} {o:Obj} (e:h.get? b=some o) (n:H b=none):(YH h H).get? b=some o:=
 PySem.W.hideAll_get _ e λhm=>by
  have q:(H b).isSome=true:=(fD.mp hm).2
  rw[n] at q;simp at q
theorem X3 {h:Heap} {H:Hp} {b:Addr} {o:Obj} (e:(YH h H).get? b=some o):h.get? b=some o/\H b=none:=by
 have e':h.get? b=some o:=PySem.W.of_hideAll (trk h H) e
 refine⟨e',?_⟩
 cases q:H b with
 |none=>rfl
 |some x=>
  have hm:b∈trk h H:=fD.mpr ⟨DC.mpr (HA e'),by simp[q]⟩
  have z:(YH h H).get? b=none:=PySem.W.hideAll_none (trk h H) hm
  rw[z] at e;cases e
noncomputable def AK (g h:Heap) (L:Addr):List (Addr×Obj):=(List.range h.objs.size).filterMap λa=>if a=L\/(g.get? a).isSome=true then none else (h.get? a).map λo=>(a,o)
noncomputable def rest (g h:Heap) (L d:Addr):List (Addr×Obj):=(AK g h L).filter λp=>decide (p.1≠d)
end L2
namespace L2
open PySem PySem.Spec PyProof.Rows
structure Mod (K:PySem.W.Frag) (mg:Str->Option Value) (base:Heap):Prop where
 kin:K.In base
 glob:base.Ns mainGlobals mg
 blt:∃mb,base.Ns builtinsNs mb/\∀x:Str,x≠"__name__"->mb x=bootBuiltins x
 nolimit:base.NoLimit
structure Cx where
 prog:Program
 w:World
 K:PySem.W.Frag
 mg:Str->Option Value
 base:Heap
 A:Around
 N:List Str
 s₀:Shared
 H₀:Hp
 env:Env
 outer:List Env
 stack:List Env
 ex:List Addr
 fn:Str->Bool
 calm:Bool
 pn:List (Addr×Obj)
 xe:Value->Shared->Prop
noncomputable def fG (l:List Env):List Addr:=l.filterMap (·.frame)
noncomputable abbrev Cx.fs (X:Cx):List Addr:=fG X.outer
noncomputable def nS (sc:Scope) (x:Str):Prop:=sc.names.lookup x=some .local\/sc.names.lookup x=some .cell\/sc.names.lookup x=some .free
noncomputable def SQ (sc:Scope) (x:Str):Prop:=sc.names.lookup x=some .local\/sc.names.lookup x=some .cell
noncomputable def oS (env:Env) (h:Heap) (m:Str->Option Value) (x:Str) (u:Value):Prop:=
 (env.kindOf x=some .local/\m x=some u)\/((env.kindOf x=some .cell\/env.kindOf x=some .free)/\∃c,env.cells.lookup x=some c/\h.IsCell c (some u))
structure Cx.Ok (X:Cx):Prop where
 mod:Mod X.K X.mg X.base
 kind:X.env.scope.kind=.function
 glob:X.env.globals=mainGlobals
 blt:X.env.builtins=builtinsNs
 above:X.s₀.heap.objs.size<=X.env.locals
 inj:∀x y c,X.env.cells.lookup x=some c->X.env.cells.lookup y=some c->x=y
 has:∀x,(X.env.kindOf x=some .cell\/X.env.kindOf x=some .free)->∃c,X.env.cells.lookup x=some c
 cab:∀x c,X.fn x=true->X.env.cells.lookup x=some c->X.s₀.heap.objs.size<=c
 hd:X.calm=true->X.A.handled=none
 frames:X.A.frames=some X.stack
 stk:X.stack=X.outer\/(X.stack=X.env::X.outer/\X.env.frame=some X.env.locals)
 exf:∀b∈X.ex,b≠X.env.locals/\∀x c,X.env.cells.lookup x=some c->c≠b
 bs:∀b o,X.base.get? b=some o->X.s₀.heap.get? b=some o/\X.H₀ b=none
 bsz:X.base.objs.size<=X.s₀.heap.objs.size
 noex:∀b o,X.base.get? b=some o->b∉X.ex
 exfs:∀b∈X.ex,b∉X.fs
 funs:X.s₀.heap.FunFrames X.base X.outer
 frf:∀b∈X.fs,X.H₀ b=none
structure wE (X:Cx) (pins:List (Addr×Obj)) (σ:List (Option V)) (H:Hp) (s:Shared):Prop where
 ok:X.Ok
 os:s.os=X.s₀.os
 bare:AllBare s.gens
 base:Un X.fs X.ex X.H₀ H X.s₀.heap s.heap
 loc:∃m,s.heap.Ns X.env.locals m/\∀(i:Nat) (x:Str) (v:V),X.N[i]?=some x->σ[i]?=some (some v)->nS X.env.scope x->∃u,FE v u/\oS X.env s.heap m x u
 cell:∀x c,X.env.cells.lookup x=some c->∃v,s.heap.IsCell c v
 free:H X.env.locals=none
 freeC:∀x c,X.env.cells.lookup x=some c->H c=none
 pin:∀p∈X.pn++pins,s.heap.get? p.1=some p.2/\H p.1=none/\p.1≠X.env.locals/\p.1∉X.fs/\∀v,p.2.data≠.cell v
 hok:rG X.prog X.w H s.heap
 len:σ.length=X.N.length
section
variable {X:Cx} {pins:List (Addr×Obj)} {σ:List (Option V)} {H H':Hp} {s:Shared} {h':Heap}
theorem Cx.Ok.nofr (ok:X.Ok) {b:Addr} {o:Obj} (e:X.base.get? b=some o):b∉X.fs:=λhb=>by
 have:=(ok.funs.mem hb).1
 rw[e] at this;cases this
theorem wE.bs (I:wE X pins σ H s):∀b o,X.base.get? b=some o->s.heap.get? b=some o/\H b=none:=λb o e=>
 ⟨I.base.keep b o (I.ok.bs b o e).1 (I.ok.bs b o e).2 (I.ok.nofr e) (I.ok.noex b o e),I.base.free b o (I.ok.bs b o e).1 (I.ok.bs b o e).2 (I.ok.noex b o e)⟩
theorem wE.bk (I:wE X pins σ H s):∀b o,X.base.get? b=some o->s.heap.get? b=some o:=λb o e=>(I.bs b o e).1
theorem wE.mod (I:wE X pins σ H s):Mod X.K X.mg X.base:=I.ok.mod
theorem wE.kIn (I:wE X pins σ H s):X.K.In s.heap:=I.ok.mod.kin.keeps I.bk
theorem wE.fr (I:wE X pins σ H s):∃m,Fr X.base X.env.locals s.heap m:=
 let ⟨m,hn,_⟩:=I.loc
 ⟨m,hn,I.bk,EB I.ok.bsz I.ok.above⟩
theorem wE.lt (I:wE X pins σ H s):X.env.locals < s.heap.objs.size:=let ⟨_,hn,_⟩:=I.loc;hn.lt
theorem wE.sz (I:wE X pins σ H s):X.s₀.heap.objs.size<=s.heap.objs.size:=EB I.ok.above (gE I.lt)
theorem wE.nofs (I:wE X pins σ H s) {a:Addr} (h:s.heap.objs.size<=a):a∉X.fs:=λhb=>by
 obtain⟨_,o,ho,_⟩:=I.ok.funs.mem hb
 exact absurd (UA (HA ho) (EB I.sz h)) (SB _)
theorem wE.cne (I:wE X pins σ H s):∀x c,X.env.cells.lookup x=some c->c≠X.env.locals:=λx c e z=>by
 obtain⟨v,o,ho,hd⟩:=I.cell x c e
 obtain⟨m,⟨o',es,ep,ho',hd',_⟩,_⟩:=I.loc
 rw[z,ho'] at ho;cases ho;rw[hd'] at hd;cases hd
theorem wE.funs (I:wE X pins σ H s):s.heap.FunFrames X.base X.outer:=by
 have all:∀(l:List Env),(∀b∈fG l,b∈X.fs)->X.s₀.heap.FunFrames X.base l->s.heap.FunFrames X.base l:=by
  intro l
  induction l with
  |nil=>intro _ _;trivial
  |cons env r ih=>
   intro hs hl
   obtain⟨hk,⟨L,o,hf,hn,ho,hd⟩,hr⟩:=hl
   have hL:L∈X.fs:=hs L (by unfold fG;rw[cD,hf];exact wA)
   obtain⟨sl,e⟩:=I.base.slot L o ho (I.ok.frf L hL) hL λz=>I.ok.exfs L z hL
   exact⟨hk,⟨L,_,hf,hn,e,hd⟩,ih (λb hb=>hs b (by unfold fG;rw[cD,hf];exact jA _ hb)) hr⟩
 exact all X.outer (λ_ hb=>hb) I.ok.funs
theorem wE.stack (I:wE X pins σ H s):s.heap.FunFrames X.base X.stack:=by
 rcases I.ok.stk with e|⟨e,hf⟩
 ·rw[e];exact I.funs
 ·rw[e]
  obtain⟨m,hn,_⟩:=I.loc
  refine .cons (by rw[I.ok.kind];decide) hf hn ?_ I.funs
  exact Heap.get?_none_of_le (EB I.ok.bsz I.ok.above)
theorem wE.stkSub (I:wE X pins σ H s):∀b∈fG X.stack,b∈X.env.locals::X.fs:=λb hb=>by
 rcases I.ok.stk with e|⟨e,hf⟩
 ·rw[e] at hb;exact jA _ hb
 ·rw[e] at hb
  unfold fG at hb
  rw[cD,hf] at hb
  exact hb
theorem wE.stkFree (I:wE X pins σ H s):∀b∈fG X.stack,H b=none:=λb hb=>by
 rcases xA.mp (I.stkSub b hb) with e|hb
 ·rw[e];exact I.free
 ·obtain⟨_,o,ho,_⟩:=I.ok.funs.mem hb
  exact I.base.free b o ho (I.ok.frf b hb) λz=>I.ok.exfs b z hb
theorem wE.step {g':Array GenState} {t':Nat} {d':Drawn} {ch:List Addr} (I:wE X pins σ H s)
  (hch:∀b∈ch,(b∈X.ex\/X.s₀.heap.objs.size<=b)/\b≠X.env.locals/\(∀x c,X.env.cells.lookup x=some c->c≠b)/\∀p∈X.pn++pins,p.1≠b)
  (keep:∀b o,b≠X.env.locals->b∉X.fs->b∉ch->s.heap.get? b=some o->H b=none->h'.get? b=some o)
  (slot:∀b o,b≠X.env.locals->b∈X.fs->b∉ch->s.heap.get? b=some o->H b=none->∃sl,h'.get? b=some {o with slots:=sl}) (free:∀b o,b∉ch->s.heap.get? b=some o->H b=none->H' b=none)
  (there:∀b o,b∉ch->s.heap.get? b=some o->∃o',h'.get? b=some o')
  (tups:∀b xs,H b=some (.tup xs)->H' b=some (.tup xs)) (frzs:∀b o u,H b=some (.frz o u)->H' b=some (.frz o u)) (tbls:∀b ps,H b=some (.tbl ps)->∃more,H' b=some (.tbl (ps++more)))
  (ns:∀m,s.heap.Ns X.env.locals m->h'.Ns X.env.locals m) (hok:rG X.prog X.w H' h') (hg:AllBare g'):
  wE X pins σ H' {s with heap:=h',gens:=g',drawn:=d',toks:=t'}:=by
 have neL:∀b o,X.s₀.heap.get? b=some o->b≠X.env.locals:=λb o e=>VA (UA (HA e) I.ok.above)
 have neC:∀b o,X.s₀.heap.get? b=some o->b∉X.ex->b∉ch:=λb o e hx hb=>by
  rcases (hch b hb).1 with z|z
  ·exact hx z
  ·exact absurd (UA (HA e) z) (SB _)
 have cellK:∀x c,X.env.cells.lookup x=some c->∀v,s.heap.IsCell c v->h'.IsCell c v:=λx c e v ⟨o,ho,hd⟩=>by
  have nch:c∉ch:=λz=>(hch c z).2.2.1 x c e rfl
  by_cases hc:c∈X.fs
  ·obtain⟨sl,q⟩:=slot c o (I.cne x c e) hc nch ho (I.freeC x c e)
   exact⟨_,q,hd⟩
  ·exact⟨o,keep c o (I.cne x c e) hc nch ho (I.freeC x c e),hd⟩
 refine⟨I.ok,I.os,hg,⟨λb o e n hb hx=>?_,λb o e n hb hx=>?_,λb o e n hx=>?_,λb o e hx=>?_,λb xs e=>tups b xs (I.base.tups b xs e),λb o xs e=>frzs b o xs (I.base.frzs b o xs e),λb ps e=>?_⟩,?_,λx c e=>?_,?_,λx c e=>?_,λp hp=>?_,hok,I.len⟩
 ·exact keep b o (neL b o e) hb (neC b o e hx) (I.base.keep b o e n hb hx) (I.base.free b o e n hx)
 ·obtain⟨sl,e1⟩:=I.base.slot b o e n hb hx
  obtain⟨sl',e2⟩:=slot b _ (neL b o e) hb (neC b o e hx) e1 (I.base.free b o e n hx)
  exact⟨sl',e2⟩
 ·obtain⟨o',e1⟩:=I.base.there b o e hx
  exact free b o' (neC b o e hx) e1 (I.base.free b o e n hx)
 ·obtain⟨o',e1⟩:=I.base.there b o e hx
  exact there b o' (neC b o e hx) e1
 ·obtain⟨m1,e1⟩:=I.base.tbls b ps e
  obtain⟨m2,e2⟩:=tbls b _ e1
  exact⟨m1++m2,by rw[e2,Array.append_assoc]⟩
 ·obtain⟨m,hn,hl⟩:=I.loc
  refine⟨m,ns m hn,λi x v e1 e2 e3=>?_⟩
  obtain⟨u,r,l⟩:=hl i x v e1 e2 e3
  refine⟨u,r,?_⟩
  rcases l with l|⟨k,c,e,z⟩
  ·exact .inl l
  ·exact .inr ⟨k,c,e,cellK x c e _ z⟩
 ·obtain⟨v,z⟩:=I.cell x c e
  exact⟨v,cellK x c e v z⟩
 ·obtain⟨m,⟨o,_,_,ho,_⟩,_⟩:=I.loc
  exact free _ o (λz=>(hch _ z).2.1 rfl) ho I.free
 ·obtain⟨v,o,ho,hd⟩:=I.cell x c e
  exact free c o (λz=>(hch c z).2.2.1 x c e rfl) ho (I.freeC x c e)
 ·obtain⟨e,n,ne,nf,d⟩:=I.pin p hp
  have nch:p.1∉ch:=λz=>(hch p.1 z).2.2.2 p hp rfl
  exact⟨keep p.1 p.2 ne nf nch e n,free p.1 p.2 nch e n,ne,nf,d⟩
theorem wE.un {t':Nat} (I:wE X pins σ H s) (u:Un X.fs [] H H' s.heap h') (hok:rG X.prog X.w H' h'):wE X pins σ H' {s with heap:=h',toks:=t'}:=by
 obtain⟨m,⟨o,es,ep,ho,r⟩,_⟩:=id I.loc
 obtain⟨sl,hL⟩:=u.any ho I.free (by simp)
 exact I.step (g':=s.gens) (d':=s.drawn) (ch:=[]) (λ_ z=>nomatch z) (λb o _ hb _ e n=>u.keep b o e n hb (by simp)) (λb o _ hb _ e n=>u.slot b o e n hb (by simp)) (λb o _ e n=>u.free b o e n (by simp)) (λb o _ e=>u.there b o e (by simp)) u.tups u.frzs u.tbls (λm' hm=>by
  obtain⟨o',es',ep',ho',r'⟩:=hm
  rw[ho] at ho';cases ho'
  exact⟨_,es',ep',hL,r'⟩) hok I.bare
theorem wE.call {g':Array GenState} {t':Nat} {d':Drawn} {ch:List Addr} (I:wE X pins σ H s) (u:Un (fG X.stack) ch H H' s.heap h') (hok:rG X.prog X.w H' h') (hg:AllBare g')
  (hch:∀b∈ch,(b∈X.ex\/X.s₀.heap.objs.size<=b)/\b≠X.env.locals/\(∀x c,X.env.cells.lookup x=some c->c≠b)/\∀p∈X.pn++pins,p.1≠b):
  wE X pins σ H' {s with heap:=h',gens:=g',drawn:=d',toks:=t'}:=by
 obtain⟨m,⟨o,es,ep,ho,r⟩,_⟩:=id I.loc
 obtain⟨sl,hL⟩:=u.any ho I.free λz=>(hch _ z).2.1 rfl
 exact I.step (ch:=ch) hch (λb o hL hb hc e n=>u.keep b o e n (λz=>(xA.mp (I.stkSub b z)).elim hL hb) hc) (λb o _ _ hc e n=>u.any e n hc) (λb o hc e n=>u.free b o e n hc) (λb o hc e=>u.there b o e hc) u.tups u.frzs u.tbls (λm' hm=>by
  obtain⟨o',es',ep',ho',r'⟩:=hm
  rw[ho] at ho';cases ho'
  exact⟨_,es',ep',hL,r'⟩) hok hg
theorem wE.turned {t':Nat} {it:Addr} (I:wE X pins σ H s) (k:∀b o,b≠it->s.heap.get? b=some o->h'.get? b=some o) (hn:H it=none) (hL:it≠X.env.locals)
  (h1:it∈X.ex\/X.s₀.heap.objs.size<=it) (h2:∀x c,X.env.cells.lookup x=some c->c≠it) (h3:∀p∈X.pn++pins,p.1≠it):wE X pins σ H {s with heap:=h',toks:=t'}:=by
 have nit:∀b u,H b=some u->b≠it:=λb u e z=>by rw[z,hn] at e;cases e
 refine I.step (g':=s.gens) (d':=s.drawn) (ch:=[it]) (λb hb=>?_) (λb o _ _ hc e _=>k b o (λz=>hc (by simp[z])) e) (λb o _ _ hc e _=>⟨o.slots,k b o (λz=>hc (by simp[z])) e⟩) (λ_ _ _ _ n=>n)
  (λb o hc e=>⟨o,k b o (λz=>hc (by simp[z])) e⟩) (λ_ _ e=>e) (λ_ _ _ e=>e) (λb ps e=>⟨#[],by rw[e];simp⟩) (λm hm=>?_) (λb u e=>?_) I.bare
 ·have e:b=it:=by simpa using hb
  subst e
  exact⟨h1,hL,h2,h3⟩
 ·obtain⟨o,es,ep,ho,r⟩:=hm
  exact⟨o,es,ep,k _ o (Ne.symm hL) ho,r⟩
 ·refine (I.hok b u e).stay (λc v hc q=>k c v ?_ q) (λ_ q=>q) λ_ _ q=>q
  rcases hc with z|z
  ·rw[z];exact nit b u e
  ·exact nit c _ z
theorem wE.tok (I:wE X pins σ H s) (t:Nat):wE X pins σ H {s with toks:=t}:=I.un (h':=s.heap) (t':=t) Un.refl I.hok
theorem wE.kept {t':Nat} (I:wE X pins σ H s) (k:∀b u,s.heap.get? b=some u->h'.get? b=some u):wE X pins σ H {s with heap:=h',toks:=t'}:=I.un (Un.kept k) (I.hok.kept k)
theorem wE.laid {a:Addr} {o:HO} {t':Nat} (I:wE X pins σ H s) (k:∀b u,s.heap.get? b=some u->h'.get? b=some u) (hp:s.heap.objs.size<=a) (new:NE X.prog X.w (upd H a o) h' a o):
 wE X pins σ (upd H a o) {s with heap:=h',toks:=t'}:=I.un (Un.laid k hp (I.hok.fresh hp)) (I.hok.laid k hp new)
theorem wE.write {x e:Addr} {o:HO} {t':Nat} (I:wE X pins σ H s) (mu:OO (H x)) (he:e=x\/H e=some (.own x)) (k:∀b u,b≠e->s.heap.get? b=some u->h'.get? b=some u) (heo:∃u,h'.get? e=some u)
 (new:NE X.prog X.w (upd H x o) h' x o):wE X pins σ (upd H x o) {s with heap:=h',toks:=t'}:=I.un (Un.write mu he k heo) (I.hok.write mu he k heo new)
theorem wE.pins_of {pins':List (Addr×Obj)} (I:wE X pins σ H s) (h:∀p∈pins',s.heap.get? p.1=some p.2/\H p.1=none/\p.1≠X.env.locals/\p.1∉X.fs/\∀v,p.2.data≠.cell v):wE X pins' σ H s:=
 ⟨I.ok,I.os,I.bare,I.base,I.loc,I.cell,I.free,I.freeC,λp hp=>(GA.mp hp).elim (λz=>I.pin p (wB _ z)) (h p),I.hok,I.len⟩
theorem SX {N:List Str} (hN:N.Nodup) {i j:Nat} {x:Str} (a:N[i]?=some x) (b:N[j]?=some x):i=j:=by
 obtain⟨h1,e1⟩:=aA.mp a
 obtain⟨h2,e2⟩:=aA.mp b
 exact (List.getElem_inj hN).mp (e1.trans e2.symm)
theorem TX {M:Model} {A:Around} {E:Value->Shared->Prop} {i:Nat} {x:Str} {v:V} {u:Value} {Q:Unit->Shared->Prop} (I:wE X pins σ H s) (hN:X.N.Nodup) (hi:X.N[i]?=some x) (hx:SQ X.env.scope x) (r:FE v u)
  (h:∀s',wE X pins (σ.set i (some v)) H s'->(∃a,Heap.SameBut a s.heap s'.heap/\(a=X.env.locals\/X.env.cells.lookup x=some a))->Q () s') (hf:X.fn x=true\/X.env.scope.names.lookup x=some .local:=by first|exact .inl rfl|exact .inr rfl|assumption):wpAny M A (storeName X.env x u) Q E s:=by
 obtain⟨m,hn,hl⟩:=id I.loc
 have hcls:(X.env.scope.kind == .class || (X.env.scope.kind == .module&&X.env.locals != X.env.globals))=false:=by rw[I.ok.kind];rfl
 have hiσ:i < σ.length:=by rw[I.len];exact (aA.mp hi).1
 have cne:=I.cne
 have tracked:∀{a:Addr} {h':Heap},(∃o,s.heap.get? a=some o/\H a=none)->Heap.SameBut a s.heap h'->rG X.prog X.w H h':=λ{a h'} ha hs b ob e=>by
  obtain⟨_,_,hfree⟩:=ha
  refine (I.hok b ob e).stay (λc w' hc q=>(hs.2 c ?_).trans q) (λ_ q=>q) λ_ _ q=>q
  rintro rfl
  rcases hc with rfl|hc
  ·rw[hfree] at e;cases e
  ·rw[hfree] at hc;cases hc
 rcases hx with hk|hk
 ·refine wpAny_storeName_local hk hn (λh' hn' hs=>?_) hcls
  obtain⟨oL,_,_,hoL,_⟩:=id hn
  refine h _ ⟨I.ok,I.os,I.bare,⟨λb o e n hb hx=>?_,λb o e n hb hx=>?_,I.base.free,λb o e hx=>?_,I.base.tups,I.base.frzs,I.base.tbls⟩,⟨_,hn',λj y v' e1 e2 e3=>?_⟩,λy c e=>?_,I.free,I.freeC,λp hp=>?_,tracked ⟨oL,hoL,I.free⟩ hs,by simpa using I.len⟩ ⟨_,hs,.inl rfl⟩
  ·exact (hs.2 b (VA (UA (HA e) I.ok.above))).trans (I.base.keep b o e n hb hx)
  ·obtain⟨sl,e1⟩:=I.base.slot b o e n hb hx
   exact⟨sl,(hs.2 b (VA (UA (HA e) I.ok.above))).trans e1⟩
  ·obtain⟨o',e1⟩:=I.base.there b o e hx
   exact⟨o',(hs.2 b (VA (UA (HA e) I.ok.above))).trans e1⟩
  ·by_cases hj:j=i
   ·subst hj
    rw[hi] at e1;cases e1
    rw[EA hiσ] at e2
    cases e2
    exact⟨u,r,.inl ⟨hk,by simp⟩⟩
   ·rw[List.getElem?_set_ne (Ne.symm hj)] at e2
    obtain⟨u',r',q⟩:=hl j y v' e1 e2 e3
    refine⟨u',r',?_⟩
    rcases q with ⟨k,e⟩|⟨k,c,e,z⟩
    ·refine .inl ⟨k,?_⟩
     have:y≠x:=λe=>hj (SX hN e1 (e ▸ hi))
     simp[this,e]
    ·exact .inr ⟨k,c,e,z.sameBut hs (cne y c e)⟩
  ·obtain⟨w',z⟩:=I.cell y c e
   exact⟨w',z.sameBut hs (cne y c e)⟩
  ·obtain⟨e,n,ne,nf,d⟩:=I.pin p hp
   exact⟨(hs.2 p.1 ne).trans e,n,ne,nf,d⟩
 ·have hfn:X.fn x=true:=by
   rcases hf with z|z
   ·exact z
   ·rw[z] at hk;cases hk
  obtain⟨c,hc⟩:=I.ok.has x (.inl hk)
  obtain⟨w',z⟩:=I.cell x c hc
  refine wpAny_storeName_cell I.ok.kind hk hc z (λh' hc' hs=>?_)
  obtain⟨oc,hoc,hocd⟩:=id z
  refine h {s with heap:=h'} ⟨I.ok,I.os,I.bare,⟨λb o e n hb hx=>?_,λb o e n hb hx=>?_,I.base.free,λb o e hx=>?_,I.base.tups,I.base.frzs,I.base.tbls⟩,⟨m,hn.sameBut hs (Ne.symm (cne x c hc)),λj y v' e1 e2 e3=>?_⟩,λy c' e=>?_,I.free,I.freeC,λp hp=>?_,tracked ⟨oc,hoc,I.freeC x c hc⟩ hs,by simpa using I.len⟩ ⟨c,hs,.inr hc⟩
  ·exact (hs.2 b (VA (UA (HA e) (I.ok.cab x c hfn hc)))).trans (I.base.keep b o e n hb hx)
  ·obtain⟨sl,e1⟩:=I.base.slot b o e n hb hx
   exact⟨sl,(hs.2 b (VA (UA (HA e) (I.ok.cab x c hfn hc)))).trans e1⟩
  ·obtain⟨o',e1⟩:=I.base.there b o e hx
   exact⟨o',(hs.2 b (VA (UA (HA e) (I.ok.cab x c hfn hc)))).trans e1⟩
  ·by_cases hj:j=i
   ·subst hj
    rw[hi] at e1;cases e1
    rw[EA hiσ] at e2
    cases e2
    exact⟨u,r,.inr ⟨.inl hk,c,hc,hc'⟩⟩
   ·rw[List.getElem?_set_ne (Ne.symm hj)] at e2
    obtain⟨u',r',q⟩:=hl j y v' e1 e2 e3
    refine⟨u',r',?_⟩
    rcases q with q|⟨k,c',e,z'⟩
    ·exact .inl q
    ·refine .inr ⟨k,c',e,z'.sameBut hs ?_⟩
     rintro rfl
     exact hj (SX hN e1 (I.ok.inj _ _ _ e hc ▸ hi))
  ·by_cases hcc:c'=c
   ·subst hcc;exact⟨_,hc'⟩
   ·obtain⟨w2,z2⟩:=I.cell y c' e
    exact⟨w2,z2.sameBut hs hcc⟩
  ·obtain⟨e,n,ne,nf,d⟩:=I.pin p hp
   refine⟨(hs.2 p.1 ?_).trans e,n,ne,nf,d⟩
   intro q
   rw[q,hoc] at e
   have q':oc=p.2:=cA e
   exact d w' (by rw[<-q'];exact hocd)
theorem UX {M:Model} {A:Around} {E:Value->Shared->Prop} {i:Nat} {x:Str} {v:V} {u:Value} {Q:Unit->Shared->Prop} (I:wE X pins σ H s) (hN:X.N.Nodup) (hi:X.N[i]?=some x) (hx:SQ X.env.scope x) (r:FE v u)
  (h:∀s',wE X pins (σ.set i (some v)) H s'->Q () s') (hf:X.fn x=true\/X.env.scope.names.lookup x=some .local:=by first|exact .inl rfl|exact .inr rfl|assumption):wpAny M A (storeName X.env x u) Q E s:=
 TX I hN hi hx r (λs' I' _=>h s' I') hf
theorem wE.call' {s':Shared} {ch:List Addr} (I:wE X pins σ H s) (ho:s'.os=s.os) (u:Un (fG X.stack) ch H H' s.heap s'.heap) (hok:rG X.prog X.w H' s'.heap) (hg:AllBare s'.gens)
  (hch:∀b∈ch,(b∈X.ex\/X.s₀.heap.objs.size<=b)/\b≠X.env.locals/\(∀x c,X.env.cells.lookup x=some c->c≠b)/\∀p∈X.pn++pins,p.1≠b):wE X pins σ H' s':=by
 obtain⟨h',g',d',t',o'⟩:=s'
 have e:o'=s.os:=ho
 subst e
 exact I.call (g':=g') (t':=t') (d':=d') u hok hg hch
end
noncomputable abbrev XK:=Value->Option Addr->Hp->Prop
noncomputable abbrev St:=List (Option V)
noncomputable abbrev VK:=V->Hp->Prop
noncomputable abbrev TE:=St->Hp->VK->Prop
noncomputable abbrev TT:=St->Hp->(Bool->Hp->Prop)->Prop
noncomputable abbrev TA:=St->Hp->(List V->Hp->Prop)->Prop
structure JG where
 nx:St->Hp->Prop
 rt:VK
 bk:St->Hp->Prop:=λ_ _=>False
 ct:St->Hp->Prop:=λ_ _=>False
noncomputable abbrev TS:=JG->St->Hp->Prop
noncomputable def EP (X:Cx) (pins:List (Addr×Obj)) (σ:St) (Q:VK) (u:Value) (s':Shared):Prop:=∃v H',wE X pins σ H' s'/\FE v u/\Q v H'
noncomputable def TP (X:Cx) (pins:List (Addr×Obj)) (σ:St) (Q:Bool->Hp->Prop) (b:Bool) (s':Shared):Prop:=∃H',wE X pins σ H' s'/\Q b H'
noncomputable def AP (X:Cx) (pins:List (Addr×Obj)) (σ:St) (Q:List V->Hp->Prop) (us:List Value) (s':Shared):Prop:=∃vs H',wE X pins σ H' s'/\BE vs us/\Q vs H'
noncomputable def SP (X:Cx) (pins:List (Addr×Obj)) (D:JG) (f:Flow) (s':Shared):Prop:=
 match f with
 |.next=>∃σ' H',wE X pins σ' H' s'/\D.nx σ' H'
 |.brk=>∃σ' H',wE X pins σ' H' s'/\D.bk σ' H'
 |.cont=>∃σ' H',wE X pins σ' H' s'/\D.ct σ' H'
 |.ret u=>∃v σ' H',wE X pins σ' H' s'/\FE v u/\D.rt v H'
noncomputable def PE (X:Cx) (e:Expr) (t:TE):Prop:=
 ∀(pins:List (Addr×Obj)) (s:Shared) (σ:St) (H:Hp) (Q:VK),wE X pins σ H s->t σ H Q->wpAny (model X.prog X.w) X.A (eval e X.env) (EP X pins σ Q) X.xe s
noncomputable def PT (X:Cx) (e:Expr) (t:TT):Prop:=
 ∀(pins:List (Addr×Obj)) (s:Shared) (σ:St) (H:Hp) (Q:Bool->Hp->Prop),wE X pins σ H s->t σ H Q->wpAny (model X.prog X.w) X.A (isTrue e X.env (eval e X.env)) (TP X pins σ Q) X.xe s
noncomputable def PW (X:Cx) (e:Expr) (t:TT):Prop:=
 ∀(xI:Sem Value) (pins:List (Addr×Obj)) (s:Shared) (σ:St) (H:Hp) (Q:Bool->Hp->Prop),wE X pins σ H s->t σ H Q->wpAny (model X.prog X.w) X.A (isTrue e X.env xI) (TP X pins σ Q) X.xe s
theorem PW.pt {X:Cx} {e:Expr} {t:TT} (h:PW X e t):PT X e t:=h _
noncomputable def PA (X:Cx) (es:List Expr) (t:TA):Prop:=
 ∀(pos:Pos) (pins:List (Addr×Obj)) (s:Shared) (σ:St) (H:Hp) (Q:List V->Hp->Prop),wE X pins σ H s->t σ H Q->wpAny (model X.prog X.w) X.A (spliced (backTo pos (starEach es X.env))) (AP X pins σ Q) X.xe s
noncomputable def PS (X:Cx) (st:Stmt) (t:TS):Prop:=
 ∀(pins:List (Addr×Obj)) (s:Shared) (σ:St) (H:Hp) (D:JG),wE X pins σ H s->t D σ H->wpAny (model X.prog X.w) X.A (exec st X.env) (SP X pins D) X.xe s
noncomputable def oI (X:Cx) (st:List Stmt) (t:TS):Prop:=
 ∀(pins:List (Addr×Obj)) (s:Shared) (σ:St) (H:Hp) (D:JG),wE X pins σ H s->t D σ H->wpAny (model X.prog X.w) X.A (execs st X.env) (SP X pins D) X.xe s
theorem mF {α:Type} {t:Sem α} {Q Q':α->Shared->Prop} {M:Model} {A:Around} {E:Value->Shared->Prop} {s:Shared} (h:wpAny M A t Q E s) (hQ:∀a s,Q a s->Q' a s):wpAny M A t Q' E s:=LB h hQ λ_ _ x=>x
end L2
namespace L2
open PySem PySem.Spec PyProof.Rows
section
variable {X:Cx}
noncomputable def sM (i:Nat):TE:=λσ H Q=>∃v,σ[i]?=some (some v)/\Q v H
noncomputable def tC (v:V):TE:=λ_ H Q=>Q v H
theorem tM {i:Nat} {x:Str} {pos:Pos} (hN:X.N[i]?=some x) (hv:nS X.env.scope x) (hd:(x == ("__debug__":Str))=false:=by decide) (hcd:(x == ("__classdict__":Str))=false:=by decide):PE X (.Name x pos) (sM i):=by
 intro pins s σ H Q I h
 obtain⟨v,e,h⟩:=h
 obtain⟨m,hn,hl⟩:=I.loc
 obtain⟨u,r,l⟩:=hl i x v hN e hv
 have fin:EP X pins σ Q u s:=⟨v,H,I,r,h⟩
 rcases l with ⟨hk,hm⟩|⟨hk,c,hc,hcell⟩
 ·exact wpAny_Name (wpAny_loadName_local I.ok.kind hk hn hm fin) hd
 ·rcases hk with hk|hk
  ·exact wpAny_Name (wpAny_loadName_cell I.ok.kind hk hc hcell fin) hd
  ·exact wpAny_Name (wpAny_loadName_free I.ok.kind hk hc hcell fin hcd) hd
theorem EE {i j pos}:PE X (.Constant (.int i) j pos) (tC (.int i)):=λ_ _ _ H _ I h=>wpAny_Constant_int ⟨.int i,H,I.tok _,⟨_,rfl⟩,h⟩
theorem tK {b j pos}:PE X (.Constant (.bool b) j pos) (tC (.bl b)):=λ_ _ _ H _ I h=>Constant_bool ⟨.bl b,H,I,rfl,h⟩
theorem wF {j pos}:PE X (.Constant .none j pos) (tC .non):=λ_ _ _ H _ I h=>Constant_none ⟨.non,H,I,rfl,h⟩
theorem ZH {x j pos}:PE X (.Constant (.str x) j pos) (tC (.str x)):=λ_ _ _ H _ I h=>Calls.Constant_str ⟨.str x,H,I.tok _,⟨_,rfl⟩,h⟩
noncomputable def Gl (X:Cx) (x:Str):Prop:=X.env.kindOf x=some .globalImplicit
theorem pS {E:Value->Shared->Prop} {pins:List (Addr×Obj)} {s:Shared} {σ:St} {H:Hp} {x:Str} {u:Value} {pos:Pos} {Q:Value->Shared->Prop} (I:wE X pins σ H s) (hg:Gl X x) (hm:X.mg x=some u) (h:Q u s)
  (hd:(x == ("__debug__":Str))=false:=by decide):wpAny (model X.prog X.w) X.A (eval (.Name x pos) X.env) Q E s:=
 Calls.Name_function_global I.ok.kind hg (Calls.loadGlobal_global (by rw[I.ok.glob];exact I.mod.glob.keeps I.bk) hm h) hd
theorem PO {E:Value->Shared->Prop} {pins:List (Addr×Obj)} {s:Shared} {σ:St} {H:Hp} {x:Str} {u:Value} {pos:Pos} {Q:Value->Shared->Prop} (I:wE X pins σ H s) (hg:Gl X x) (hm:X.mg x=none) (hv:bootBuiltins x=some u) (h:Q u s)
  (hn:x≠"__name__":=by decide) (hd:(x == ("__debug__":Str))=false:=by decide):wpAny (model X.prog X.w) X.A (eval (.Name x pos) X.env) Q E s:=by
 obtain⟨mb,h1,h2⟩:=I.mod.blt
 exact Calls.Name_function_global I.ok.kind hg (Calls.loadGlobal_builtin (by rw[I.ok.glob];exact I.mod.glob.keeps I.bk) hm (by rw[I.ok.blt];exact h1.keeps I.bk) ((h2 x hn).trans hv) h) hd
theorem Y3 {x:Str} {v:V} {u:Value} {pos:Pos} (hg:Gl X x) (hm:X.mg x=none) (hv:bootBuiltins x=some u) (r:FE v u) (hn:x≠"__name__":=by decide) (hd:(x == ("__debug__":Str))=false:=by decide):PE X (.Name x pos) (tC v):=
 λ_ _ _ H _ I h=>PO I hg hm hv ⟨v,H,I,r,h⟩ hn hd
variable {a b:Expr} {ta tb:TE} {pos:Pos}
noncomputable def PC (X:Cx) (op:CmpOp) (a b:Expr) (t:TE):Prop:=
 ∀(pins:List (Addr×Obj)) (s:Shared) (σ:St) (H:Hp) (Q:VK),wE X pins σ H s->t σ H Q->
  wpAny (model X.prog X.w) X.A (eval a X.env) (λv s₁=>wpAny (model X.prog X.w) X.A (eval b X.env) (λu s₂=>wpAny (model X.prog X.w) X.A (compareOp op v u) (EP X pins σ Q) X.xe s₂) X.xe s₁) X.xe s
noncomputable def tB (t:TE):TT:=λσ H Q=>t σ H λx H1=>∃c,x=.bl c/\Q c H1
theorem pI {e:Expr} {t:TE} (h:PE X e t) (he:∀xI,isTrue e X.env xI=(do let v<-xI;standAt e.pos;holding [v] (truthy v)):=by intro _;rfl):PT X e (tB t):=by
 intro pins s σ H Q I hw
 refine isTrue_plain (mF (h pins s σ H _ I hw) λv s1 ⟨x,H1,I1,r1,q1⟩=>?_) (he _)
 obtain⟨d,rfl,q⟩:=q1
 cases r1
 exact TC ⟨H1,I1,q⟩
variable {tA tB':TT} {rest:List Expr}
noncomputable def QO (t u:TT):TT:=λσ H Q=>t σ H λc H1=>if c=true then u σ H1 Q else Q false H1
noncomputable def VX (t u:TT):TT:=λσ H Q=>t σ H λc H1=>if c=true then Q true H1 else u σ H1 Q
noncomputable def RO (t:TT):TT:=λσ H Q=>t σ H λc H1=>Q (!c) H1
theorem gJ (ha:PT X a tA):PW X (.BoolOp .And [a] pos) tA:=by
 intro wh pins s σ H Q I h
 refine isTrue_and (mF (ha pins s σ H Q I h) λc s1 e=>?_)
 cases c with
 |true=>exact isTrue_and_nil e
 |false=>exact e
theorem SO (ha:PT X a tA):PW X (.BoolOp .Or [a] pos) tA:=by
 intro wh pins s σ H Q I h
 refine isTrue_or (mF (ha pins s σ H Q I h) λc s1 e=>?_)
 cases c with
 |false=>exact isTrue_or_nil e
 |true=>exact e
theorem hJ (ha:PT X a tA) (hb:PW X (.BoolOp .And (b::rest) pos) tB'):PW X (.BoolOp .And (a::b::rest) pos) (QO tA tB'):=by
 intro wh pins s σ H Q I h
 refine isTrue_and (mF (ha pins s σ H _ I h) λc s1 ⟨H1,I1,q1⟩=>?_)
 cases c with
 |true=>exact hb wh pins s1 σ H1 Q I1 q1
 |false=>exact⟨H1,I1,q1⟩
theorem UO (ha:PT X a tA) (hb:PW X (.BoolOp .Or (b::rest) pos) tB'):PW X (.BoolOp .Or (a::b::rest) pos) (VX tA tB'):=by
 intro wh pins s σ H Q I h
 refine isTrue_or (mF (ha pins s σ H _ I h) λc s1 ⟨H1,I1,q1⟩=>?_)
 cases c with
 |true=>exact⟨H1,I1,q1⟩
 |false=>exact hb wh pins s1 σ H1 Q I1 q1
theorem uK (ha:PT X a tA):PT X (.UnaryOp .Not a pos) (RO tA):=by
 intro pins s σ H Q I h
 exact isTrue_not (ha pins s σ H (λc H1=>Q (!c) H1) I h)
noncomputable def YK (ta tb:TE):TE:=λσ H Q=>ta σ H λx H1=>∃c,x=.bl c/\if c=true then tb σ H1 Q else Q (.bl false) H1
noncomputable def ZK (ta:TE):TE:=λσ H Q=>ta σ H λx H1=>∃c,x=.bl c/\Q (.bl (!c)) H1
theorem qS {op} {t:TE} (h:PE X a t):PE X (.BoolOp op [a] pos) t:=λpins s σ H Q I hw=>BoolOp_one (h pins s σ H Q I hw)
theorem TQ (ha:PE X a ta) (hb:PE X (.BoolOp .And (b::rest) pos) tb):PE X (.BoolOp .And (a::b::rest) pos) (YK ta tb):=by
 intro pins s σ H Q I h
 refine BoolOp_and (mF (ha pins s σ H _ I h) λv s1 ⟨x,H1,I1,r1,q1⟩=>?_)
 obtain⟨c,rfl,q1⟩:=q1
 cases r1
 refine TC ?_
 cases c with
 |true=>exact hb pins s1 σ H1 Q I1 q1
 |false=>exact⟨.bl false,H1,I1,rfl,q1⟩
theorem uM (ha:PE X a ta):PE X (.UnaryOp .Not a pos) (ZK ta):=by
 intro pins s σ H Q I h
 refine UnaryOp_ (mF (ha pins s σ H _ I h) λv s1 ⟨x,H1,I1,r1,q1⟩=>?_)
 obtain⟨c,rfl,q1⟩:=q1
 cases r1
 exact not_of (TC ⟨.bl (!c),H1,I1,rfl,q1⟩)
noncomputable def WX (t:TT) (ta tb:TE):TE:=λσ H Q=>t σ H λc H1=>if c=true then ta σ H1 Q else tb σ H1 Q
theorem UQ {c:Expr} (hc:PT X c tA) (ha:PE X a ta) (hb:PE X b tb):PE X (.IfExp c a b pos) (WX tA ta tb):=by
 intro pins s σ H Q I h
 refine wpAny_IfExp (mF (hc pins s σ H _ I h) λd s1 ⟨H1,I1,q1⟩=>?_)
 cases d with
 |true=>exact ha pins s1 σ H1 Q I1 q1
 |false=>exact hb pins s1 σ H1 Q I1 q1
end
end L2
namespace L2
open PySem PySem.Spec PyProof.Rows
noncomputable def xE (K:PySem.W.Frag) (H:Hp) (a:Addr) (xs:List V):Prop:=
 Rd H a (.lst xs)\/
  ∃(o:Obj) (its:Array Value) (n:Nat),K.lookup a=some o/\o.cls=.type "list"/\o.dict=none/\o.data=.seq its n/\its.size<=sizeLine/\BE xs its.toList
noncomputable def oF (K:PySem.W.Frag) (H:Hp) (a:Addr) (xs:List V):Prop:=
 Rd H a (.tup xs)\/
  ∃(o:Obj) (its:Array Value) (n:Nat),K.lookup a=some o/\o.cls=.type "tuple"/\o.data=.seq its n/\its.size<=sizeLine/\BE xs its.toList
noncomputable def rS:Value->Option V
 |.none=>some .non
 |.bool b=>some (.bl b)
 |.int i _=>some (.int i)
 |.str x _=>some (.str x)
 |.bytes b _=>some (.byt b)
 |.float b _=>some (.flt b)
 |.ref a=>some (.ref a)
 |.type n=>some (.ty n)
 |_=>none
theorem FE.abs {x:V} {u:Value} (r:FE x u):rS u=some x:=by
 cases x with
 |non=>cases r;rfl
 |bl _=>cases r;rfl
 |int _=>obtain⟨t,rfl⟩:=r;rfl
 |str _=>obtain⟨t,rfl⟩:=r;rfl
 |byt _=>obtain⟨t,rfl⟩:=r;rfl
 |flt _=>obtain⟨t,rfl⟩:=r;rfl
 |ref _=>cases r;rfl
 |ty _=>cases r;rfl
theorem FE.inj {x y:V} {u:Value} (r:FE x u) (q:FE y u):x=y:=cA (r.abs.symm.trans q.abs)
theorem BE.inj:∀{xs ys:List V} {us:List Value},BE xs us->BE ys us->xs=ys
 |_,_,_,.nil,.nil=>rfl
 |_,_,_,.cons r t,.cons r' t'=>by rw[r.inj r',BE.inj t t']
section
variable {X:Cx} {pins:List (Addr×Obj)} {σ:St} {H:Hp} {s:Shared} {a:Addr} {xs ys:List V}
theorem xE.of {K:PySem.W.Frag} (h:H a=some (.lst xs)):xE K H a xs:=.inl (.inl h)
theorem oF.of {K:PySem.W.Frag} (h:H a=some (.tup xs)):oF K H a xs:=.inl (.inl h)
theorem wE.list (I:wE X pins σ H s) (h:xE X.K H a xs):∃its:List Value,BE xs its/\PlainL s.heap a its.toArray/\xs.length<=sizeLine:=by
 rcases h with h|⟨o,its,n,hk,hc,hd,hs,hz,r⟩
 ·obtain⟨z,its,n,r,e⟩:=h.ok I.hok
  exact⟨its,r,⟨_,n,e,rfl,rfl,rfl⟩,z⟩
 ·refine⟨its.toList,r,⟨o,n,I.kIn a o hk,hc,hd,by simpa using hs⟩,?_⟩
  have e:=r.length
  simp only[zA] at e
  omega
theorem wE.tuple (I:wE X pins σ H s) (h:oF X.K H a xs):∃its:List Value,BE xs its/\IsTup s.heap a its.toArray/\xs.length<=sizeLine:=by
 rcases h with h|⟨o,its,n,hk,hc,hs,hz,r⟩
 ·obtain⟨z,its,r,p⟩:=h.ok I.hok
  exact⟨its,r,p,z⟩
 ·refine⟨its.toList,r,⟨o,I.kIn a o hk,hc,n,by simpa using hs⟩,?_⟩
  have e:=r.length
  simp only[zA] at e
  omega
theorem wE.list_inj (I:wE X pins σ H s) (h:xE X.K H a xs) (h':xE X.K H a ys):xs=ys:=by
 obtain⟨its,r,⟨o,n,e,_,_,d⟩,_⟩:=I.list h
 obtain⟨its',r',⟨o',n',e',_,_,d'⟩,_⟩:=I.list h'
 rw[e] at e';cases e'
 rw[d] at d'
 injection d' with d1 _
 have:its=its':=by simpa using congrArg Array.toList d1
 subst this
 exact r.inj r'
theorem wE.tuple_inj (I:wE X pins σ H s) (h:oF X.K H a xs) (h':oF X.K H a ys):xs=ys:=by
 obtain⟨its,r,⟨o,e,_,n,d⟩,_⟩:=I.tuple h
 obtain⟨its',r',⟨o',e',_,n',d'⟩,_⟩:=I.tuple h'
 rw[e] at e';cases e'
 rw[d] at d'
 injection d' with d1 _
 have:its=its':=by simpa using congrArg Array.toList d1
 subst this
 exact r.inj r'
end
noncomputable abbrev Cx.wish (X:Cx) (E:Value->Shared->Prop):Cx:={X with xe:=E}
noncomputable abbrev Cx.nox (X:Cx):Cx:=X.wish λ_ _=>False
theorem Cx.Ok.wish {X:Cx} (ok:X.Ok) (E:Value->Shared->Prop):(X.wish E).Ok:=
 ⟨ok.mod,ok.kind,ok.glob,ok.blt,ok.above,ok.inj,ok.has,ok.cab,ok.hd,ok.frames,ok.stk,ok.exf,ok.bs,ok.bsz,ok.noex,ok.exfs,ok.funs,ok.frf⟩
theorem Cx.Ok.unwish {X:Cx} {E:Value->Shared->Prop} (ok:(X.wish E).Ok):X.Ok:=
 ⟨ok.mod,ok.kind,ok.glob,ok.blt,ok.above,ok.inj,ok.has,ok.cab,ok.hd,ok.frames,ok.stk,ok.exf,ok.bs,ok.bsz,ok.noex,ok.exfs,ok.funs,ok.frf⟩
section
variable {X:Cx} {pins:List (Addr×Obj)} {σ:St} {H:Hp} {s:Shared} {E:Value->Shared->Prop}
theorem wE.wish (I:wE X pins σ H s) (E:Value->Shared->Prop):wE (X.wish E) pins σ H s:=⟨I.ok.wish E,I.os,I.bare,I.base,I.loc,I.cell,I.free,I.freeC,I.pin,I.hok,I.len⟩
theorem wE.unwish (I:wE (X.wish E) pins σ H s):wE X pins σ H s:=⟨I.ok.unwish,I.os,I.bare,I.base,I.loc,I.cell,I.free,I.freeC,I.pin,I.hok,I.len⟩
theorem SP.unwish {D:JG} {f:Flow} {s':Shared} (h:SP (X.wish E) pins D f s'):SP X pins D f s':=by
 cases f with
 |next=>obtain⟨σ',H',I,q⟩:=h;exact⟨σ',H',I.unwish,q⟩
 |brk=>obtain⟨σ',H',I,q⟩:=h;exact⟨σ',H',I.unwish,q⟩
 |cont=>obtain⟨σ',H',I,q⟩:=h;exact⟨σ',H',I.unwish,q⟩
 |ret u=>obtain⟨v,σ',H',I,r,q⟩:=h;exact⟨v,σ',H',I.unwish,r,q⟩
theorem PE.nox {e:Expr} {t:TE} (h:PE X.nox e t):PE X e t:=λpins s σ H Q I hw=>
 LB (h pins s σ H Q (I.wish _) hw) (λ_ _ ⟨v,H',I',r,q⟩=>⟨v,H',I'.unwish,r,q⟩) λ_ _ z=>False.elim z
theorem PT.nox {e:Expr} {t:TT} (h:PT X.nox e t):PT X e t:=λpins s σ H Q I hw=>
 LB (h pins s σ H Q (I.wish _) hw) (λ_ _ ⟨H',I',q⟩=>⟨H',I'.unwish,q⟩) λ_ _ z=>False.elim z
theorem oI.nox {st:List Stmt} {t:TS} (h:oI X.nox st t):oI X st t:=λpins s σ H D I hw=>
 LB (h pins s σ H D (I.wish _) hw) (λ_ _ q=>q.unwish) λ_ _ z=>False.elim z
end
section
variable {X:Cx} {st:Stmt} {rest:List Stmt} {t u:TS} {e:Expr} {te:TE} {pos:Pos}
noncomputable def tNext:TS:=λD σ H=>D.nx σ H
noncomputable def VO (t u:TS):TS:=λD σ H=>t {D with nx:=u D} σ H
theorem mG:oI X [] tNext:=λ_ _ σ H _ I h=>JD ⟨σ,H,I,h⟩
theorem iF (h1:PS X st t) (h2:oI X rest u):oI X (st::rest) (VO t u):=by
 intro pins s σ H D I h
 refine wpAny_execs_cons (mF (h1 pins s σ H {D with nx:=u D} I h) λf s1 q=>?_)
 cases f with
 |next=>
  obtain⟨σ',H',I',q⟩:=q
  exact h2 pins s1 σ' H' D I' q
 |ret v=>exact q
 |brk=>exact q
 |cont=>exact q
theorem ME (h1:PS X st t):oI X [st] t:=by
 intro pins s σ H D I h
 refine wpAny_execs_cons (mF (h1 pins s σ H D I h) λf s1 q=>?_)
 cases f with
 |next=>exact JD q
 |ret v=>exact q
 |brk=>exact q
 |cont=>exact q
noncomputable def tCont:TS:=λD σ H=>D.ct σ H
theorem XX:PS X (.Continue pos) tCont:=λ_ _ σ H _ I h=>wpAny_Continue ⟨σ,H,I,h⟩
theorem wE.quiet {pins:List (Addr×Obj)} {σ:St} {H:Hp} {s:Shared} (I:wE X pins σ H s):interactive X.env=false:=by simp[interactive,I.ok.kind]
noncomputable def aL (te:TE):TS:=λD σ H=>te σ H λ_ H1=>D.nx σ H1
theorem qH (he:PE X e te) (hs:swapsWith e none pos.line X.env=pure false:=by rfl):PS X (.Expr e pos) (aL te):=by
 intro pins s σ H D I h
 exact wpAny_Expr_any (mF (he pins s σ H _ I h) λv s1 ⟨x,H1,I1,r1,q1⟩=>⟨σ,H1,I1,q1⟩) I.quiet hs
noncomputable def WO (te:TE):TS:=λD σ H=>te σ H D.rt
theorem KF (he:PE X e te):PS X (.Return (some e) pos) (WO te):=by
 intro pins s σ H D I h
 exact wpAny_Return_some (mF (he pins s σ H _ I h) λv s1 ⟨x,H1,I1,r1,q1⟩=>⟨x,σ,H1,I1,r1,q1⟩)
noncomputable def XO (c:TT) (t u:TS):TS:=λD σ H=>c σ H λb H1=>if b=true then t D σ H1 else u D σ H1
theorem VF {c:Expr} {a b:List Stmt} {tc:TT} (hc:PT X c tc) (ha:oI X a t) (hb:oI X b u):PS X (.If c a b pos) (XO tc t u):=by
 intro pins s σ H D I h
 refine wpAny_If (mF (hc pins s σ H _ I h) λd s1 ⟨H1,I1,q1⟩=>?_)
 cases d with
 |true=>exact ha pins s1 σ H1 D I1 q1
 |false=>exact hb pins s1 σ H1 D I1 q1
end
noncomputable abbrev TG:=V->St->Hp->(St->Hp->Prop)->Prop
noncomputable abbrev TGs:=List V->St->Hp->(St->Hp->Prop)->Prop
noncomputable def PG (X:Cx) (target:Expr) (t:TG):Prop:=
 ∀(pins:List (Addr×Obj)) (s:Shared) (σ:St) (H:Hp) (v:V) (u:Value) (Q:St->Hp->Prop),wE X pins σ H s->FE v u->t v σ H Q->
  wpAny (model X.prog X.w) X.A (assign target X.env u) (λ_ s'=>∃σ' H',wE X pins σ' H' s'/\Q σ' H') X.xe s
noncomputable def VQ (X:Cx) (ts:List Expr) (t:TGs):Prop:=
 ∀(pins:List (Addr×Obj)) (s:Shared) (σ:St) (H:Hp) (vs:List V) (us:List Value) (Q:St->Hp->Prop),wE X pins σ H s->BE vs us->t vs σ H Q->
  wpAny (model X.prog X.w) X.A (assignInOrder ((assignEach ts X.env).map (·.2)) us) (λ_ s'=>∃σ' H',wE X pins σ' H' s'/\Q σ' H') X.xe s
noncomputable abbrev TSet:=V->V->V->Hp->(Hp->Prop)->Prop
noncomputable def YO (X:Cx) (t:TSet):Prop:=
 ∀(pins:List (Addr×Obj)) (s:Shared) (σ:St) (H:Hp) (o i v:V) (ov iv u:Value) (Q:Hp->Prop),wE X pins σ H s->FE o ov->FE i iv->FE v u->t o i v H Q->
  wpAny (model X.prog X.w) X.A (setItem ov iv u) (λ_ s'=>∃H',wE X pins σ H' s'/\Q H') X.xe s
section
variable {X:Cx} {pos:Pos}
noncomputable def OH (i:Nat):TG:=λv σ H Q=>Q (σ.set i (some v)) H
theorem KG {i:Nat} {x:Str} (hN:X.N.Nodup) (hi:X.N[i]?=some x) (hx:SQ X.env.scope x) (hf:X.fn x=true\/X.env.scope.names.lookup x=some .local:=by first|exact .inl rfl|exact .inr rfl|assumption):PG X (.Name x pos) (OH i):=by
 intro pins s σ H v u Q I r h
 exact wpAny_assign_Name (UX I hN hi hx r (λs' I'=>⟨_,H,I',h⟩) hf)
noncomputable def gNil:TGs:=λvs σ H Q=>vs=[]/\Q σ H
noncomputable def bL (t:TG) (u:TGs):TGs:=λvs σ H Q=>∃v r,vs=v::r/\t v σ H λσ' H'=>u r σ' H' Q
theorem YX:VQ X [] gNil:=by
 intro pins s σ H vs us Q I r h
 obtain⟨e,h⟩:=h
 subst e
 cases r
 exact assignInOrder_nil ⟨σ,H,I,h⟩
theorem WQ {e:Expr} {es:List Expr} {t:TG} {u:TGs} (h1:PG X e t) (h2:VQ X es u)
  (hs:(assignEach (e::es) X.env).map (·.2)=assign e X.env::(assignEach es X.env).map (·.2):=by rfl):VQ X (e::es) (bL t u):=by
 intro pins s σ H vs us Q I r h
 obtain⟨v,vr,e1,h⟩:=h
 subst e1
 cases r with
 |cons r rr=>
  rw[hs]
  refine assignInOrder_cons (mF (h1 pins s σ H _ _ _ I r h) λ_ s1 ⟨σ1,H1,I1,q1⟩=>?_)
  exact h2 pins s1 σ1 H1 _ _ Q I1 rr q1
noncomputable def ZO (K:PySem.W.Frag) (n:Nat) (t:TGs):TG:=λv σ H Q=>∃a xs,v=.ref a/\oF K H a xs/\xs.length=n/\t xs σ H Q
theorem ZX {es:List Expr} {k:Nat} {t:TGs} {n:Nat} (hc:X.calm=true) (h:VQ X es t)
  (hn:(assignEach es X.env).length=n:=by rfl) (hst:(assignEach es X.env).findIdx? (·.1)=none:=by rfl):PG X (.Tuple es k pos) (ZO X.K n t):=by
 intro pins s σ H v u Q I r hw
 obtain⟨a,xs,e1,hq,hl,hw⟩:=hw
 subst e1
 cases r
 obtain⟨its,rv,ht,hz⟩:=I.tuple hq
 refine assign_Tuple_tuple (I.ok.hd hc) ht (by simp[hn,<-hl,rv.length]) hst λh' hx=>?_
 have I1:wE X pins σ H {s with heap:=h'}:=I.kept (t':=s.toks) λb o e=>hx b o (VA (HA e)) e
 exact h pins _ σ H xs _ Q I1 (by simpa using rv) hw
noncomputable def aP (to ti:TE) (t:TSet):TG:=λv σ H Q=>to σ H λo H1=>ti σ H1 λi H2=>t o i v H2 λH3=>Q σ H3
theorem GH {o i:Expr} {to ti:TE} {t:TSet} (ho:PE X o to) (hi:PE X i ti) (hs:YO X t)
  (ha:∀v,assign (.Subscript o i pos) X.env v=(do
   let ov<-holding [v] (eval o X.env)
   let iv<-holding [v,ov] (eval i X.env)
   standAt pos
   holding [v,ov,iv] (setItem ov iv v)
   release [v,ov,iv] []):=by intro _;rfl):PG X (.Subscript o i pos) (aP to ti t):=by
 intro pins s σ H v u Q I r h
 rw[ha]
 refine gA (IB (mF (ho pins s σ H _ I h) λov s1 ⟨x,H1,I1,r1,q1⟩=>?_))
 refine gA (IB (mF (hi pins s1 σ H1 _ I1 q1) λiv s2 ⟨y,H2,I2,r2,q2⟩=>?_))
 refine gA (bE (gA (IB (mF (hs pins s2 σ H2 x y v ov iv u _ I2 r1 r2 r q2) λ_ s3 ⟨H3,I3,q3⟩=>?_))))
 exact wpAny_release ⟨σ,H3,I3,q3⟩
noncomputable def BK (te:TE) (g:TG):TS:=λD σ H=>te σ H λx H1=>g x σ H1 D.nx
theorem IH {tg e:Expr} {te:TE} {g:TG} (he:PE X e te) (hg:PG X tg g) (hs:swapsWithSole [tg] e pos.line X.env=pure false:=by rfl) (hw:swappedStores [tg] e X.env=pure none:=by rfl)
  (h1:(assignEach [tg] X.env).map (·.2)=[assign tg X.env]:=by rfl):PS X (.Assign [tg] e pos) (BK te g):=by
 intro pins s σ H D I h
 refine wpAny_Assign_stores (mF (he pins s σ H _ I h) λv s1 ⟨x,H1,I1,r1,q1⟩=>?_) hs hw
 rw[h1]
 exact mF (hg pins s1 σ H1 x v _ I1 r1 q1) λ_ s2 q=>q
theorem xF {i:Nat} {x:Str} {e:Expr} {te:TE} {pos':Pos} (hN:X.N.Nodup) (hi:X.N[i]?=some x) (hx:SQ X.env.scope x) (he:PE X e te) (hs:swapsWith e (some (.Name x pos')) pos.line X.env=pure false:=by rfl) (hf:X.fn x=true\/X.env.scope.names.lookup x=some .local:=by first|exact .inl rfl|exact .inr rfl|assumption):
  PS X (.Assign [.Name x pos'] e pos) (BK te (OH i)):=by
 intro pins s σ H D I h
 refine wpAny_Assign_Name (mF (he pins s σ H _ I h) λv s1 ⟨y,H1,I1,r1,q1⟩=>?_) hs
 exact UX I1 hN hi hx r1 (λs2 I2=>⟨_,H1,I2,q1⟩) hf
end
section
variable {X:Cx} {pos:Pos}
noncomputable def MJ (c:TT) (tb:TS):TS:=λD σ H=>∃W:Nat->St->Hp->Prop,(∃m,W m σ H)/\∀m σ H,W m σ H->
 c σ H λb H1=>if b=true then ∃N:St->Hp->Prop,(∀σ' H',N σ' H'->∃m',m' < m/\W m' σ' H')/\tb {D with nx:=N,ct:=N,bk:=D.nx} σ H1 else D.nx σ H1
theorem Z3 {c:Expr} {body:List Stmt} {tc:TT} {tb:TS} (hp:PassesOwn (model X.prog X.w) X.A X.env X.xe) (hc:PT X c tc) (hb:oI X body tb):PS X (.While c body [] pos) (MJ tc tb):=by
 intro pins s σ H D I h
 obtain⟨W,⟨m0,w0⟩,turn⟩:=h
 refine wpAny_While (codeAny_whileLoop (λn s'=>∃σ' H',wE X pins σ' H' s'/\W n σ' H') ?_ m0 ⟨σ,H,I,w0⟩)
 rintro n s1 ⟨σ1,H1,I1,w1⟩
 refine yC hp (mF (hc pins s1 σ1 H1 _ I1 (turn n σ1 H1 w1)) λb s2 ⟨H2,I2,q2⟩=>?_)
 cases b with
 |true=>
  obtain⟨N,hN,q2⟩:=q2
  rw[iA rfl]
  refine yC hp (mF (hb pins s2 σ1 H2 _ I2 q2) λf s3 q3=>?_)
  cases f with
  |next=>
   obtain⟨σ3,H3,I3,n3⟩:=q3
   obtain⟨m',hm,w3⟩:=hN σ3 H3 n3
   exact⟨m',hm,σ3,H3,I3,w3⟩
  |cont=>
   obtain⟨σ3,H3,I3,n3⟩:=q3
   obtain⟨m',hm,w3⟩:=hN σ3 H3 n3
   exact⟨m',hm,σ3,H3,I3,w3⟩
  |brk=>exact q3
  |ret v=>exact q3
 |false=>
  rw[fA oA]
  exact JD ⟨σ1,H2,I2,q2⟩
end
structure It where
 go:Nat->Hp->Prop
 yld:Nat->Hp->V->Hp->Prop
 stop:Nat->Hp->Prop
noncomputable def LG (X:Cx) (pins:List (Addr×Obj)) (H:Hp) (b:Addr):Prop:=
 H b=none/\b≠X.env.locals/\b∉X.fs/\(b∈X.ex\/X.s₀.heap.objs.size<=b)/\(∀x c,X.env.cells.lookup x=some c->c≠b)/\∀p∈X.pn++pins,p.1≠b
theorem wE.fpOk {X:Cx} {pins:List (Addr×Obj)} {σ:St} {H H':Hp} {s:Shared} {b:Addr} (I:wE X pins σ H s) (hb:s.heap.objs.size<=b) (hn:H' b=none):LG X pins H' b:=by
 refine⟨hn,Nat.ne_of_gt (UA I.lt hb),I.nofs hb,.inr (EB I.sz hb),λx c e z=>?_,λp hp z=>?_⟩
 ·obtain⟨v,q⟩:=I.cell x c e
  exact absurd (UA q.lt (by rw[z];exact hb)) (SB _)
 ·exact absurd (UA (HA (I.pin p hp).1) (by rw[z];exact hb)) (SB _)
structure NI (P:Program) (w:World) (K:PySem.W.Frag) (tg:Expr) (J:It) (fp:List Addr) (it:Addr) (tn:Nat->Heap->Prop):Prop where
 mem:it∈fp
 obj:∀i h,tn i h->∀b∈fp,∃o,h.get? b=some o/\∀v,o.data≠.cell v
 keep:∀i h h',tn i h->(∀b∈fp,∀o,h.get? b=some o->h'.get? b=some o)->tn i h'
 item:∀(X:Cx),X.prog=P->X.w=w->X.K=K->X.calm=true->∀(i:Nat) (pins:List (Addr×Obj)) (s:Shared) (σ:St) (H:Hp) (E:Value->Shared->Prop),wE X pins σ H s->(∀b∈fp,LG X pins H b)->tn i s.heap->J.go i H->
  wpAny (model P w) X.A (pyNext (.ref it)) (λr s1=>∃u,r=some u/\
   wpAny (model P w) X.A (letOwnedTupleGo tg (.ref it) u) (λ_ s2=>∃x H',wE X pins σ H' s2/\FE x u/\J.yld i H x H'/\tn (i+1) s2.heap/\∀b∈fp,H' b=none) E s1) E s
 done:∀(X:Cx),X.prog=P->X.w=w->X.K=K->X.calm=true->∀(i:Nat) (pins:List (Addr×Obj)) (s:Shared) (σ:St) (H:Hp) (E:Value->Shared->Prop),wE X pins σ H s->(∀b∈fp,LG X pins H b)->tn i s.heap->J.stop i H->
  wpAny (model P w) X.A (pyNext (.ref it)) (λr s1=>r=none/\wE X pins σ H s1) E s
 self:∀(A:Around) (i:Nat) (s:Shared) (Q:Value->Shared->Prop) (E:Value->Shared->Prop),tn i s.heap->Q (.ref it) s->wpAny (model P w) A (pyIter (.ref it)) Q E s
noncomputable abbrev TI:=St->Hp->(It->Hp->Prop)->Prop
noncomputable def aY (X:Cx) (pins:List (Addr×Obj)) (σ:St) (tg:Expr) (R:It->Hp->Prop) (itv:Value) (s2:Shared):Prop:=
 ∃(it:Addr) (fp:List Addr) (tn:Nat->Heap->Prop) (J:It) (H':Hp),itv=.ref it/\wE X pins σ H' s2/\NI X.prog X.w X.K tg J fp it tn/\tn 0 s2.heap/\(∀b∈fp,LG X pins H' b)/\R J H'
noncomputable def PI (X:Cx) (tg iter:Expr) (wi:TI):Prop:=
 ∀(pins:List (Addr×Obj)) (s:Shared) (σ:St) (H:Hp) (R:It->Hp->Prop),wE X pins σ H s->wi σ H R->
  wpAny (model X.prog X.w) X.A (eval iter X.env) (λv s1=>wpAny (model X.prog X.w) X.A (pyIter v) (aY X pins σ tg R) X.xe s1) X.xe s
theorem sS {M : Model} {A : Around} {E : Value -> Shared -> Prop} {s : Shared} {tg : Expr} {it : Addr} {u : Value} {o : Obj} {n : String} {vs : Array Value} {Q : Unit -> Shared -> Prop} (ho : s.heap.get? it = some o) (hc : o.cls = .type n) (hd : o.data = .fields vs)
    (hn : ["enumerate", "zip", "dict_itemiterator", "dict_reverseitemiterator", "odict_iterator", "itertools.zip_longest", "itertools.pairwise"].contains n = false) (hQ : Q () s) : wpAny M A (letOwnedTupleGo tg (.ref it) u) Q E s := by
  unfold letOwnedTupleGo
  cases tg <;> first
    | exact DA hQ
    | (cases u <;> first
        | exact DA hQ
        | (refine gA (wpAny_load ho ?_)
           rw [hc, hd]
           show wpAny M A (if (["enumerate", "zip", "dict_itemiterator", "dict_reverseitemiterator", "odict_iterator", "itertools.zip_longest", "itertools.pairwise"].contains n && vs[0]? == some (rawInt _)) = true then _ else _) Q E s
           rw [fA (by intro h; rw [hn, mE] at h; cases h)]
           exact DA hQ))
noncomputable def cL (K:PySem.W.Frag) (a:Addr):It:=
 ⟨λi H=>∃xs x,xE K H a xs/\xs[i]?=some x,λi H x H'=>H'=H/\∀xs,xE K H a xs->xs[i]?=some x,λi H=>∃xs,xE K H a xs/\xs.length<=i⟩
noncomputable def dL (lo:Int) (n:Nat):It:=⟨λi _=>i < n,λi H x H'=>H'=H/\x=.int (lo+i),λi _=>n<=i⟩
theorem i4 {P:Program} {w:World} {K:PySem.W.Frag} {tg:Expr} (a it:Addr):NI P w K tg (cL K a) [it] it (λi h=>h.IsListIter it a i) where
 mem:=by simp
 obj:=λi h st b hb=>by
  have e:b=it:=by simpa using hb
  subst e
  obtain⟨o,e,c,d⟩:=st
  exact⟨o,e,λv z=>by rw[d] at z;cases z⟩
 keep:=λi h h' st k=>st.at λo e=>k it (by simp) o e
 item:=by
  intro X hP hw hK hc i pins s σ H E I hf st hg
  subst hP hw hK
  obtain⟨xs,x,hq,hx⟩:=hg
  obtain⟨its,rv,p,hz⟩:=I.list hq
  obtain⟨u,hu,ru⟩:=rv.get hx
  obtain⟨f0,f1,f2,f3,f4,f5⟩:=hf it (by simp)
  refine wpAny_pyNext_list_item st p.isList (x:=u) (by simpa using hu) λh' st' sb=>?_
  have I1:wE X pins σ H {s with heap:=h'}:=I.turned (t':=s.toks) (λb o hb e=>(sb.2 b hb).trans e) f0 f1 f3 f4 f5
  obtain⟨o,e,c,d⟩:=id st'
  exact⟨u,rfl,sS (s:={s with heap:=h'}) e c d (by decide) ⟨x,H,I1,ru,⟨rfl,λys hy=>by rw[I.list_inj hy hq];exact hx⟩,st',λb hb=>(hf b hb).1⟩⟩
 done:=by
  intro X hP hw hK hc i pins s σ H E I hf st hg
  subst hP hw hK
  obtain⟨xs,hq,hx⟩:=hg
  obtain⟨its,rv,p,hz⟩:=I.list hq
  obtain⟨f0,f1,f2,f3,f4,f5⟩:=hf it (by simp)
  have hl:=rv.length
  exact wpAny_pyNext_list_end (I.ok.hd hc) st p.isList (by simp;omega) λh' eb=>⟨rfl,I.turned (t':=s.toks) (λb o hb e=>eb b o hb e) f0 f1 f3 f4 f5⟩
 self:=λ_ _ _ _ _ st h=>wpAny_pyIter_listiter st h
theorem j4 {P:Program} {w:World} {K:PySem.W.Frag} {tg:Expr} (it:Addr) (lo:Int) (n:Nat):NI P w K tg (dL lo n) [it] it (λi h=>IsRangeIter h it (lo+(i:Nat) * 1) ((n:Int) - (i:Nat)) 1) where
 mem:=by simp
 obj:=λi h st b hb=>by
  have e:b=it:=by simpa using hb
  subst e
  exact⟨_,st,λv z=>by
   have z':Data.fields _=Data.cell v:=z
   cases z'⟩
 keep:=λi h h' st k=>k it (by simp) _ st
 item:=by
  intro X hP hw hK hc i pins s σ H E I hf st hg
  subst hP hw hK
  obtain⟨f0,f1,f2,f3,f4,f5⟩:=hf it (by simp)
  have W:=Walks.range (prog:=X.prog) (w:=X.w) (I.ok.hd hc) it lo 1 n
  refine W.item i s _ _ hg st λv h' tk hv st' kk=>?_
  obtain⟨t,rfl⟩:=hv
  have I1:wE X pins σ H {s with heap:=h',toks:=tk}:=I.turned (λb o hb e=>kk b o (by simpa using hb) e) f0 f1 f3 f4 f5
  refine⟨_,rfl,sS (s:={s with heap:=h',toks:=tk}) (n:="range_iterator") st' rfl rfl (by decide) ⟨.int (lo+i),H,I1,⟨t,?_⟩,⟨rfl,rfl⟩,st',λb hb=>(hf b hb).1⟩⟩
  rw[Int.mul_one]
 done:=by
  intro X hP hw hK hc i pins s σ H E I hf st hg
  subst hP hw hK
  obtain⟨f0,f1,f2,f3,f4,f5⟩:=hf it (by simp)
  exact wpAny_pyNext_range_end (I.ok.hd hc) st (by have:n<=i:=hg;omega) λh' eb=>⟨rfl,I.turned (t':=s.toks) (λb o hb e=>eb b o hb e) f0 f1 f3 f4 f5⟩
 self:=λ_ _ _ _ _ st h=>wpAny_pyIter_rangeiter st h
end L2
namespace L2
open PySem PySem.Spec PyProof.Rows
section
variable {X:Cx} {tg:Expr}
noncomputable def eL (K:PySem.W.Frag) (tl:TE):TI:=λσ H R=>tl σ H λx H1=>∃a,x=.ref a/\(∃xs,xE K H1 a xs)/\R (cL K a) H1
theorem FJ {l:Expr} {tl:TE} (hl:PE X l tl):PI X tg l (eL X.K tl):=by
 intro pins s σ H R I h
 refine mF (hl pins s σ H _ I h) λv s1 ⟨x,H1,I1,r1,q1⟩=>?_
 obtain⟨a,e,⟨xs,hq⟩,q⟩:=q1
 subst e
 cases r1
 obtain⟨its,rv,p,hz⟩:=I1.list hq
 refine wpAny_pyIter_list p.isList ?_
 refine⟨s1.heap.objs.size,[s1.heap.objs.size],_,_,H1,rfl,I1.kept (t':=s1.toks) λb o e=>sA _ e,i4 a _,⟨_,OA _ rfl,rfl,rfl⟩,λb hb=>?_,q⟩
 have e:b=s1.heap.objs.size:=by simpa using hb
 subst e
 exact I1.fpOk (pA _) (I1.hok.fresh (pA _))
theorem K4 {pins:List (Addr×Obj)} {σ:St} {H:Hp} {s:Shared} {R:It->Hp->Prop} {E:Value->Shared->Prop} {lo hi:Int} {t u v:Tok} {tk:Nat} (I:wE X pins σ H s) (h1: -(2 ^ 62)<=lo) (h2:lo < 2 ^ 62) (h3: -(2 ^ 62)<=hi) (h4:hi < 2 ^ 62)
  (q:R (dL lo (hi - lo).toNat) H):wpAny (model X.prog X.w) X.A (pyIter (.ref s.heap.objs.size)) (aY X pins σ tg R) E {s with heap:=s.heap.push {cls:=.type "range",data:=.fields #[.int lo t,.int hi u,.int 1 v]},toks:=tk}:=by
 refine wpAny_pyIter_range (IsRange.new ..) (small_one h1 h2 h3 h4) ?_
 have I1:wE X pins σ H {s with heap:=s.heap.push {cls:=.type "range",data:=.fields #[.int lo t,.int hi u,.int 1 v]},toks:=tk}:=I.kept λb o e=>sA _ e
 refine⟨(s.heap.push {cls:=.type "range",data:=.fields #[.int lo t,.int hi u,.int 1 v]}).objs.size,[(s.heap.push {cls:=.type "range",data:=.fields #[.int lo t,.int hi u,.int 1 v]}).objs.size],_,_,H,rfl,
  I1.kept (t':=tk) λb o e=>sA _ e,j4 _ lo (hi - lo).toNat,?_,λb hb=>?_,q⟩
 ·have e1:lo+((0:Nat):Int) * 1=lo:=by simp
  have e2:(((hi - lo).toNat:Nat):Int) - ((0:Nat):Int)=Builtin.Range.rangeSize lo hi 1:=by rw[rangeSize_one];split<;>omega
  show IsRangeIter _ _ (lo+((0:Nat):Int) * 1) ((((hi - lo).toNat:Nat):Int) - ((0:Nat):Int)) 1
  rw[e1,e2]
  exact OA _ rfl
 ·have e:b=(s.heap.push {cls:=.type "range",data:=.fields #[.int lo t,.int hi u,.int 1 v]}).objs.size:=by simpa using hb
  subst e
  exact I1.fpOk (pA _) (I1.hok.fresh (pA _))
noncomputable def fL (ta:TA):TI:=λσ H R=>ta σ H λvs H1=>∃j:Int,vs=[.int j]/\ -(2 ^ 62)<=j/\j < 2 ^ 62/\R (dL 0 j.toNat) H1
theorem iJ {a:Expr} {ta:TA} {p pos:Pos} (hg:Gl X "range") (hm:X.mg "range"=none) (ha:PA X [a] ta) (hs:starEach [a] X.env=[(false,eval a X.env)]:=by rfl):PI X tg (.Call (.Name "range" p) [a] [] pos) (fL ta):=by
 intro pins s σ H R I h
 refine Call_ (PO I hg hm boot_range (QC (mF (ha pos pins s σ H _ I h) λus s1 ⟨vs,H1,I1,r1,q1⟩=>?_) hs rfl))
 obtain⟨j,e,q1,q2,q⟩:=q1
 subst e
 cases r1 with
 |cons r rr=>
  cases rr
  obtain⟨t,rfl⟩:=r
  exact call_range_1 (K4 I1 (by omega) (by omega) q1 q2 (by simpa using q))
noncomputable def uS (wi:TI) (g:TG) (tb:TS):TS:=λD σ H=>wi σ H λJ H1=>∃W:Nat->Nat->St->Hp->Prop,(∃m,W 0 m σ H1)/\∀i m σ H,W i m σ H->
 (J.stop i H/\D.nx σ H)\/(J.go i H/\∃N:St->Hp->Prop,(∀σ' H',N σ' H'->∃m',m' < m/\W (i+1) m' σ' H')/\∀x H',J.yld i H x H'->g x σ H' λσ2 H2=>tb {D with nx:=N,ct:=N,bk:=D.nx} σ2 H2)
noncomputable def aI (fp:List Addr) (h:Heap):List (Addr×Obj):=fp.filterMap λb=>(h.get? b).map λo=>(b,o)
theorem jO {fp:List Addr} {h:Heap} {b:Addr} {o:Obj} (hb:b∈fp) (e:h.get? b=some o):(b,o)∈aI fp h:=kC.mpr ⟨b,hb,by rw[e];rfl⟩
theorem L4 {fp:List Addr} {h:Heap} {p:Addr×Obj} (hp:p∈aI fp h):p.1∈fp/\h.get? p.1=some p.2:=by
 obtain⟨b,hb,e⟩:=kC.mp hp
 cases q:h.get? b with
 |none=>rw[q] at e;cases e
 |some o=>
  rw[q] at e
  have e':(b,o)=p:=cA e
  subst e'
  exact⟨hb,q⟩
theorem wE.pinned {pins:List (Addr×Obj)} {σ:St} {H:Hp} {s:Shared} {fp:List Addr} (I:wE X pins σ H s) (hf:∀b∈fp,LG X pins H b) (ho:∀b∈fp,∃o,s.heap.get? b=some o/\∀v,o.data≠.cell v):wE X (pins++aI fp s.heap) σ H s:=
 I.pins_of λp hp=>(GA.mp hp).elim (λz=>I.pin p (IA _ z)) λz=>by
  obtain⟨hb,e⟩:=L4 z
  obtain⟨f0,f1,f2,_⟩:=hf p.1 hb
  obtain⟨o,e',d⟩:=ho p.1 hb
  rw[e] at e';cases e'
  exact⟨e,f0,f1,f2,d⟩
theorem wE.unpinned {pins pl:List (Addr×Obj)} {σ:St} {H:Hp} {s:Shared} (I:wE X (pins++pl) σ H s):wE X pins σ H s:=I.pins_of λp hp=>I.pin p (IA _ (wB _ hp))
theorem vM {iter:Expr} {body:List Stmt} {wi:TI} {g:TG} {tb:TS} {pos:Pos} (hp:PassesOwn (model X.prog X.w) X.A X.env X.xe) (hc:X.calm=true) (hi:PI X tg iter wi) (hg:PG X tg g) (hb:oI X body tb)
  (hs:∀x,foldedSetIterable iter X.env x=pure x:=by intro _;rfl):PS X (.For tg iter body [] pos) (uS wi g tb):=by
 intro pins s σ H D I h
 refine wpAny_For (mF (hi pins s σ H _ I h) λv s1 h1=>mF h1 λitv s2 h2=>?_) hs
 obtain⟨it,fp,tn,J,H2,e,I2,T,st2,f2,W,⟨m0,w0⟩,turn⟩:=h2
 subst e
 have stat:∀{H':Hp},(∀b∈fp,H' b=none)->∀b∈fp,LG X pins H' b:=λhn b hb=>⟨hn b hb,(f2 b hb).2⟩
 refine codeAny_forLoop_any (λn s'=>∃i σ' H',wE X pins σ' H' s'/\tn i s'.heap/\(∀b∈fp,H' b=none)/\W i n σ' H') ?_ m0 ⟨0,σ,H2,I2,st2,λb hb=>(f2 b hb).1,w0⟩
 rintro n s3 ⟨i,σ3,H3,I3,st3,fr3,w3⟩
 rcases turn i n σ3 H3 w3 with ⟨stop,qn⟩|⟨go,N,hN,step⟩
 ·refine yC hp (mF (T.done X rfl rfl rfl hc i pins s3 σ3 H3 X.xe I3 (stat fr3) st3 stop) λr s4 ⟨hr,I4⟩=>?_)
  subst hr
  exact JD ⟨σ3,H3,I4,qn⟩
 ·refine yC hp (mF (T.item X rfl rfl rfl hc i pins s3 σ3 H3 X.xe I3 (stat fr3) st3 go) λr s4 ⟨u,hr,h4⟩=>?_)
  subst hr
  refine yC hp (mF h4 λ_ s5 ⟨x,H5,I5,r5,y5,st5,fr5⟩=>?_)
  have I5':=I5.pinned (stat fr5) (T.obj _ _ st5)
  refine yC hp (mF (hg _ s5 σ3 H5 x u _ I5' r5 (step x H5 y5)) λ_ s6 ⟨σ6,H6,I6,q6⟩=>?_)
  refine yC hp (mF (hb _ s6 σ6 H6 _ I6 q6) λf s7 q7=>?_)
  have again:∀{σ7:St} {H7:Hp},wE X (pins++aI fp s5.heap) σ7 H7 s7->N σ7 H7->∃m,m < n/\∃i σ' H',wE X pins σ' H' s7/\tn i s7.heap/\(∀b∈fp,H' b=none)/\W i m σ' H':=λ{σ7 H7} I7 n7=>by
   obtain⟨m',hm,w7⟩:=hN σ7 H7 n7
   refine⟨m',hm,i+1,σ7,H7,I7.unpinned,T.keep _ _ _ st5 λb hb o e=>(I7.pin (b,o) (IA _ (IA _ (jO hb e)))).1,λb hb=>?_,w7⟩
   obtain⟨o,e,d⟩:=T.obj _ _ st5 b hb
   exact (I7.pin (b,o) (IA _ (IA _ (jO hb e)))).2.1
  cases f with
  |next=>obtain⟨σ7,H7,I7,n7⟩:=q7;exact again I7 n7
  |cont=>obtain⟨σ7,H7,I7,n7⟩:=q7;exact again I7 n7
  |brk=>obtain⟨σ7,H7,I7,q7⟩:=q7;exact⟨σ7,H7,I7.unpinned,q7⟩
  |ret v=>obtain⟨x7,σ7,H7,I7,r7,q7⟩:=q7;exact⟨x7,σ7,H7,I7.unpinned,r7,q7⟩
end
theorem M4 {K:PySem.W.Frag} {a:Addr} {xs:List V} {g:TG} {tb:TS} {D:JG} {σ:St} {H:Hp} (Pv:Nat->St->Hp->Prop) (h0:Pv 0 σ H) (hl:∀i σ H,i<=xs.length->Pv i σ H->xE K H a xs)
  (hs:∀i x σ H,xs[i]?=some x->Pv i σ H->g x σ H λσ2 H2=>tb {D with nx:=Pv (i+1),ct:=Pv (i+1),bk:=D.nx} σ2 H2) (hd:∀σ H,Pv xs.length σ H->D.nx σ H):
  ∃W:Nat->Nat->St->Hp->Prop,(∃m,W 0 m σ H)/\∀i m σ H,W i m σ H->
   ((cL K a).stop i H/\D.nx σ H)\/((cL K a).go i H/\∃N:St->Hp->Prop,(∀σ' H',N σ' H'->∃m',m' < m/\W (i+1) m' σ' H')/\∀x H',(cL K a).yld i H x H'->g x σ H' λσ2 H2=>tb {D with nx:=N,ct:=N,bk:=D.nx} σ2 H2):=by
 refine⟨λi m σ H=>m=xs.length - i/\i<=xs.length/\Pv i σ H,⟨xs.length,by simp,fC _,h0⟩,?_⟩
 rintro i m σ H ⟨rfl,hi,p⟩
 have q:=hl i σ H hi p
 by_cases hlt:i < xs.length
 ·refine .inr ⟨⟨xs,xs[i],q,by simp[hlt]⟩,Pv (i+1),λσ' H' p'=>⟨xs.length - (i+1),by omega,rfl,hlt,p'⟩,λx H' y=>?_⟩
  obtain⟨e,y⟩:=y
  subst e
  exact hs i x σ _ (y xs q) p
 ·have e:i=xs.length:=by omega
  subst e
  exact .inl ⟨⟨xs,q,pA _⟩,hd σ H p⟩
theorem N4 {lo:Int} {n:Nat} {g:TG} {tb:TS} {D:JG} {σ:St} {H:Hp} (Pv:Nat->St->Hp->Prop) (h0:Pv 0 σ H)
  (hs:∀i σ H,i < n->Pv i σ H->g (.int (lo+i)) σ H λσ2 H2=>tb {D with nx:=Pv (i+1),ct:=Pv (i+1),bk:=D.nx} σ2 H2) (hd:∀σ H,Pv n σ H->D.nx σ H):
  ∃W:Nat->Nat->St->Hp->Prop,(∃m,W 0 m σ H)/\∀i m σ H,W i m σ H->
   ((dL lo n).stop i H/\D.nx σ H)\/((dL lo n).go i H/\∃N:St->Hp->Prop,(∀σ' H',N σ' H'->∃m',m' < m/\W (i+1) m' σ' H')/\∀x H',(dL lo n).yld i H x H'->g x σ H' λσ2 H2=>tb {D with nx:=N,ct:=N,bk:=D.nx} σ2 H2):=by
 refine⟨λi m σ H=>m=n - i/\i<=n/\Pv i σ H,⟨n,by simp,fC _,h0⟩,?_⟩
 rintro i m σ H ⟨rfl,hi,p⟩
 by_cases hlt:i < n
 ·refine .inr ⟨hlt,Pv (i+1),λσ' H' p'=>⟨n - (i+1),by omega,rfl,hlt,p'⟩,λx H' y=>?_⟩
  obtain⟨e,y⟩:=y
  subst e y
  exact hs i σ _ hlt p
 ·have e:i=n:=by omega
  subst e
  exact .inl ⟨pA _,hd σ H p⟩
end L2
namespace L2
open PySem PySem.Spec PyProof.Rows
noncomputable abbrev R2:=V->V->Hp->VK->Prop
noncomputable def fH (X:Cx) (f:Value->Value->Sem Value) (r:R2):Prop:=
 ∀(pins:List (Addr×Obj)) (s:Shared) (σ:St) (H:Hp) (x y:V) (v u:Value) (Q:VK),wE X pins σ H s->FE x v->FE y u->r x y H Q->
  wpAny (model X.prog X.w) X.A (f v u) (EP X pins σ Q) X.xe s
noncomputable def zG (X:Cx) (f:Value) (r:List V->Hp->VK->Prop):Prop:=
 ∀(pins:List (Addr×Obj)) (s:Shared) (σ:St) (H:Hp) (xs:List V) (us:List Value) (Q:VK),wE X pins σ H s->BE xs us->r xs H Q->
  wpAny (model X.prog X.w) X.A (call f us) (EP X pins σ Q) X.xe s
noncomputable def TruR (X:Cx) (r:V->Hp->(Bool->Hp->Prop)->Prop):Prop:=
 ∀(pins:List (Addr×Obj)) (s:Shared) (σ:St) (H:Hp) (x:V) (v:Value) (Q:Bool->Hp->Prop),wE X pins σ H s->FE x v->r x H Q->
  wpAny (model X.prog X.w) X.A (truthy v) (TP X pins σ Q) X.xe s
noncomputable def wM (r:R2) (ta tb:TE):TE:=λσ H Q=>ta σ H λx H1=>tb σ H1 λy H2=>r x y H2 Q
noncomputable def rI (C:Int->Int->Prop) (g:Int->Int->V):R2:=λx y H Q=>∃i j,x=.int i/\y=.int j/\C i j/\Q (g i j) H
noncomputable def CK (g:Int->Int->V):R2:=λx y H Q=>∃i j,x=.int i/\y=.int j/\Q (g i j) H
section
variable {X:Cx} {a b c:Expr} {ta tb tc:TE} {pos:Pos}
theorem xM (ha:PE X a ta) (hb:PE X b tb) {pins:List (Addr×Obj)} {s:Shared} {σ:St} {H:Hp} {R:V->V->Hp->Prop} (I:wE X pins σ H s)
  (h:ta σ H λx H1=>tb σ H1 λy H2=>R x y H2) {Q:Value->Shared->Prop} {f:Value->Value->Sem Value}
  (hf:∀v u s2 x y H2,wE X pins σ H2 s2->FE x v->FE y u->R x y H2->wpAny (model X.prog X.w) X.A (f v u) Q X.xe s2):
  wpAny (model X.prog X.w) X.A (eval a X.env) (λv s₁=>wpAny (model X.prog X.w) X.A (eval b X.env) (λu s₂=>wpAny (model X.prog X.w) X.A (f v u) Q X.xe s₂) X.xe s₁) X.xe s:=by
 refine mF (ha pins s σ H _ I h) λv s1 ⟨x,H1,I1,r1,q1⟩=>?_
 refine mF (hb pins s1 σ H1 _ I1 q1) λu s2 ⟨y,H2,I2,r2,q2⟩=>?_
 exact hf v u s2 x y H2 I2 r1 r2 q2
theorem jF {op:Operator} {r:R2} (ho:fH X (binaryOp op) r) (ha:PE X a ta) (hb:PE X b tb):PE X (.BinOp a op b pos) (wM r ta tb):=by
 intro pins s σ H Q I h
 exact wpAny_BinOp (xM ha hb I h λv u s2 x y H2 I2 rx ry q=>ho pins s2 σ H2 x y v u Q I2 rx ry q)
theorem bP {f:Value->Value->Sem Value} {C:Int->Int->Prop} {g:Int->Int->Int}
  (rule:∀(i j:Int) (t u:Tok) (s:Shared) (Q:Value->Shared->Prop) (E:Value->Shared->Prop),C i j->Q (.int (g i j) s.toks) {s with toks:=s.toks+1}->wpAny (model X.prog X.w) X.A (f (.int i t) (.int j u)) Q E s):
  fH X f (rI C λi j=>.int (g i j)):=by
 intro pins s σ H x y v u Q I rx ry h
 obtain⟨i,j,rfl,rfl,hc,q⟩:=h
 obtain⟨t,rfl⟩:=rx
 obtain⟨t',rfl⟩:=ry
 exact rule i j t t' s _ _ hc ⟨.int (g i j),H,I.tok _,⟨_,rfl⟩,q⟩
theorem cP {f:Value->Value->Sem Value} {g:Int->Int->Int}
  (rule:∀(i j:Int) (t u:Tok) (s:Shared) (Q:Value->Shared->Prop) (E:Value->Shared->Prop),Q (.int (g i j) s.toks) {s with toks:=s.toks+1}->wpAny (model X.prog X.w) X.A (f (.int i t) (.int j u)) Q E s):
  fH X f (CK λi j=>.int (g i j)):=by
 intro pins s σ H x y v u Q I rx ry h
 obtain⟨i,j,rfl,rfl,q⟩:=h
 obtain⟨t,rfl⟩:=rx
 obtain⟨t',rfl⟩:=ry
 exact rule i j t t' s _ _ ⟨.int (g i j),H,I.tok _,⟨_,rfl⟩,q⟩
theorem yM {f:Value->Value->Sem Value} {g:Int->Int->Bool}
  (rule:∀(i j:Int) (t u:Tok) (s:Shared) (Q:Value->Shared->Prop) (E:Value->Shared->Prop),Q (.bool (g i j)) s->wpAny (model X.prog X.w) X.A (f (.int i t) (.int j u)) Q E s):
  fH X f (CK λi j=>.bl (g i j)):=by
 intro pins s σ H x y v u Q I rx ry h
 obtain⟨i,j,rfl,rfl,q⟩:=h
 obtain⟨t,rfl⟩:=rx
 obtain⟨t',rfl⟩:=ry
 exact rule i j t t' s _ _ ⟨.bl (g i j),H,I,rfl,q⟩
noncomputable def dP (i j:Int):Prop:=0 < j/\j < 1073741824
noncomputable def eP (i j:Int):Prop:=0<=j/\j<=1000000/\i.natAbs < 2 ^ 64
noncomputable def DK (i j:Int):Prop:=(-(2 ^ 64) < i/\i < 2 ^ 64)\/(-(2 ^ 64) < j/\j < 2 ^ 64)
theorem DK.ok {i j:Int} (h:DK i j):IntMulOk i j:=by
 rcases h with ⟨h1,h2⟩|⟨h1,h2⟩
 ·exact .of_left (intBits_le_64 h1 h2)
 ·exact .of_right (intBits_le_64 h1 h2)
theorem two_pow_nn (k:Nat):(0:Int)<=2 ^ k:=by
 rw[two_pow_cast]
 exact Int.natCast_nonneg _
theorem PH:fH X (binaryOp .Add) (CK λi j=>.int (i+j)):=cP λ_ _ _ _ _ _ _ q=>add_int q
theorem bY:fH X (binaryOp .Sub) (CK λi j=>.int (i - j)):=cP λ_ _ _ _ _ _ _ q=>sub_int q
theorem cY:fH X (binaryOp .Mult) (rI DK λi j=>.int (i * j)):=bP λ_ _ _ _ _ _ _ hc q=>mul_int q hc.ok
theorem pJ:fH X (binaryOp .FloorDiv) (rI dP λi j=>.int (i / j)):=bP λi j _ _ _ _ _ hc q=>by
 have h1:(0:Int) < j:=hc.1
 have h2:j < 1073741824:=hc.2
 exact floordiv_int (by omega) (by rw[MD i (by omega)];exact q) (.inl (PyProof.noPylong_small (by omega)))
theorem VG:fH X (binaryOp .Mod) (rI (λ_ j=>0 < j) λi j=>.int (i % j)):=bP λi j _ _ _ _ _ hc q=>by
 have h1:(0:Int) < j:=hc
 exact mod_int' (by omega) (by rw[Int.fmod_eq_emod_of_nonneg i (by omega)];exact q)
theorem XQ:fH X (binaryOp .Pow) (rI eP λi j=>.int (i ^ j.toNat)):=bP λ_ _ _ _ _ _ _ hc q=>pow_int_small hc.1 hc.2.1 hc.2.2 q
theorem zM:fH X (binaryOp .RShift) (rI (λ_ j=>0<=j) λi j=>.int (i / 2 ^ j.toNat)):=bP λi j _ _ _ _ _ hc q=>
 rshift_int hc (by rw[MD i (two_pow_nn _)];exact q)
end
noncomputable def NJ:V->V->Bool
 |.non,.non=>true|.non,.int _=>true|.int _,.non=>true|.non,.bl _=>true|.bl _,.non=>true|.non,.str _=>true|.str _,.non=>true
 |.int _,.int _=>true|.bl _,.bl _=>true|.str _,.str _=>true|.byt _,.byt _=>true
 |.int _,.str _=>true|.str _,.int _=>true|.bl _,.str _=>true|.str _,.bl _=>true
 |_,_=>false
noncomputable def rEq:R2:=λx y H Q=>NJ x y=true/\Q (.bl (decide (x=y))) H
noncomputable def rNe:R2:=λx y H Q=>NJ x y=true/\Q (.bl (!decide (x=y))) H
theorem dY {i j:Int}:decide (V.int i=V.int j)=(i == j):=by
 rw[MB]
 simp
theorem eY {i j:Bool}:decide (V.bl i=V.bl j)=(i == j):=by
 rw[MB]
 simp
theorem fY {i j:Str}:decide (V.str i=V.str j)=(i == j):=by
 rw[MB]
 simp
theorem gY {i j:Array UInt8}:decide (V.byt i=V.byt j)=(i.toList == j.toList):=by
 rw[MB]
 cases i
 cases j
 simp
section
variable {X:Cx} {a b c:Expr} {ta tb tc:TE} {pos:Pos}
theorem AG {pins:List (Addr×Obj)} {σ:St} {H:Hp} {s:Shared} {Q:VK} {k k':Bool} (I:wE X pins σ H s) (q:Q (.bl k) H) (e:k=k'):EP X pins σ Q (.bool k') s:=by
 subst e
 exact⟨.bl k,H,I,rfl,q⟩
theorem OI:fH X (compareOp .Eq) rEq:=by
 intro pins s σ H x y v u Q I rx ry h
 obtain⟨hs,q⟩:=h
 cases x with
 |non=>
  cases rx
  cases y with
  |non=>cases ry;exact PySem.EqNone.eq_none_none (AG I q (by simp))
  |bl j=>cases ry;exact PySem.EqNone.eq_none_bool (AG I q (by simp))
  |int j=>obtain⟨t',rfl⟩:=ry;exact PySem.EqNone.eq_none_int (AG I q (by simp))
  |str j=>obtain⟨t',rfl⟩:=ry;exact PySem.EqNone.eq_none_str (AG I q (by simp))
  |_=>exact absurd (show false=true from hs) oA
 |bl i=>
  cases rx
  cases y with
  |non=>cases ry;exact PySem.EqNone.eq_bool_none (AG I q (by simp))
  |bl j=>cases ry;exact eq_bool (AG I q eY)
  |str j=>obtain⟨t',rfl⟩:=ry;exact PySem.EqMixed.eq_bool_str (AG I q (by simp))
  |_=>exact absurd (show false=true from hs) oA
 |int i=>
  obtain⟨t,rfl⟩:=rx
  cases y with
  |non=>cases ry;exact PySem.EqNone.eq_int_none (AG I q (by simp))
  |int j=>obtain⟨t',rfl⟩:=ry;exact eq_int (AG I q dY)
  |str j=>obtain⟨t',rfl⟩:=ry;exact PySem.EqMixed.eq_int_str (AG I q (by simp))
  |_=>exact absurd (show false=true from hs) oA
 |str i=>
  obtain⟨t,rfl⟩:=rx
  cases y with
  |non=>cases ry;exact PySem.EqNone.eq_str_none (AG I q (by simp))
  |bl j=>cases ry;exact PySem.EqMixed.eq_str_bool (AG I q (by simp))
  |int j=>obtain⟨t',rfl⟩:=ry;exact PySem.EqMixed.eq_str_int (AG I q (by simp))
  |str j=>obtain⟨t',rfl⟩:=ry;exact eq_str (AG I q fY)
  |_=>exact absurd (show false=true from hs) oA
 |byt i=>
  obtain⟨t,rfl⟩:=rx
  cases y with
  |byt j=>obtain⟨t',rfl⟩:=ry;exact PySem.W.eq_bytes (AG I q gY)
  |_=>exact absurd (show false=true from hs) oA
 |_=>cases y<;>exact absurd (show false=true from hs) oA
theorem vS:fH X (compareOp .NotEq) rNe:=by
 intro pins s σ H x y v u Q I rx ry h
 obtain⟨hs,q⟩:=h
 cases x with
 |non=>
  cases rx
  cases y with
  |non=>cases ry;exact PySem.EqNone.ne_none_none (AG I q (by simp))
  |bl j=>cases ry;exact PySem.EqNone.ne_none_bool (AG I q (by simp))
  |int j=>obtain⟨t',rfl⟩:=ry;exact PySem.EqNone.ne_none_int (AG I q (by simp))
  |str j=>obtain⟨t',rfl⟩:=ry;exact PySem.EqNone.ne_none_str (AG I q (by simp))
  |_=>exact absurd (show false=true from hs) oA
 |bl i=>
  cases rx
  cases y with
  |non=>cases ry;exact PySem.EqNone.ne_bool_none (AG I q (by simp))
  |bl j=>cases ry;exact ne_bool (AG I q (congrArg not eY))
  |str j=>obtain⟨t',rfl⟩:=ry;exact PySem.EqMixed.ne_bool_str (AG I q (by simp))
  |_=>exact absurd (show false=true from hs) oA
 |int i=>
  obtain⟨t,rfl⟩:=rx
  cases y with
  |non=>cases ry;exact PySem.EqNone.ne_int_none (AG I q (by simp))
  |int j=>obtain⟨t',rfl⟩:=ry;exact ne_int (AG I q (congrArg not dY))
  |str j=>obtain⟨t',rfl⟩:=ry;exact PySem.EqMixed.ne_int_str (AG I q (by simp))
  |_=>exact absurd (show false=true from hs) oA
 |str i=>
  obtain⟨t,rfl⟩:=rx
  cases y with
  |non=>cases ry;exact PySem.EqNone.ne_str_none (AG I q (by simp))
  |bl j=>cases ry;exact PySem.EqMixed.ne_str_bool (AG I q (by simp))
  |int j=>obtain⟨t',rfl⟩:=ry;exact PySem.EqMixed.ne_str_int (AG I q (by simp))
  |str j=>obtain⟨t',rfl⟩:=ry;exact ne_str (AG I q (congrArg not fY))
  |_=>exact absurd (show false=true from hs) oA
 |byt i=>
  obtain⟨t,rfl⟩:=rx
  cases y with
  |byt j=>obtain⟨t',rfl⟩:=ry;exact PySem.W.ne_bytes (AG I q (congrArg not gY))
  |_=>exact absurd (show false=true from hs) oA
 |_=>cases y<;>exact absurd (show false=true from hs) oA
theorem YQ:fH X (compareOp .Lt) (CK λi j=>.bl (decide (i < j))):=yM λ_ _ _ _ _ _ _ q=>lt_int q
theorem gL:fH X (compareOp .Gt) (CK λi j=>.bl (decide (j < i))):=yM λ_ _ _ _ _ _ _ q=>gt_int q
theorem fP:fH X (compareOp .GtE) (CK λi j=>.bl (decide (j<=i))):=yM λ_ _ _ _ _ _ _ q=>ge_int q
theorem bI:fH X (compareOp .Is) (λx y H Q=>y=.non/\Q (.bl (decide (x=.non))) H):=by
 intro pins s σ H x y v u Q I rx ry h
 obtain⟨rfl,q⟩:=h
 cases ry
 refine is_none_gen (AG I q ?_)
 cases x<;>first
  |(cases rx;rfl)
  |(obtain⟨t,rfl⟩:=rx;rfl)
theorem cI:fH X (compareOp .IsNot) (λx y H Q=>y=.non/\Q (.bl (!decide (x=.non))) H):=by
 intro pins s σ H x y v u Q I rx ry h
 obtain⟨rfl,q⟩:=h
 cases ry
 refine isnot_none_gen (AG I q ?_)
 cases x<;>first
  |(cases rx;rfl)
  |(obtain⟨t,rfl⟩:=rx;rfl)
theorem uE (b:Expr) {op:CmpOp} (h:op≠.In:=by decide) (h2:op≠.NotIn:=by decide):behindInMarks op b=false:=by
 have e1:(op == CmpOp.In)=false:=by cases op<;>first|rfl|exact absurd rfl h
 have e2:(op == CmpOp.NotIn)=false:=by cases op<;>first|rfl|exact absurd rfl h2
 cases b<;>simp[behindInMarks,e1,e2]
theorem AM {op:CmpOp} {r:R2} (ho:fH X (compareOp op) r) (ha:PE X a ta) (hb:PE X b tb) (hm:behindInMarks op b=false):PE X (.Compare a [op] [b] pos) (wM r ta tb):=by
 intro pins s σ H Q I h
 exact wpAny_Compare1 (xM ha hb I h λv u s2 x y H2 I2 rx ry q=>ho pins s2 σ H2 x y v u Q I2 rx ry q) hm
noncomputable def iL (t:TE):TT:=λσ H Q=>t σ H λx H'=>∃k,x=.bl k/\Q k H'
theorem BF {op:CmpOp} {r:R2} (ho:fH X (compareOp op) r) (ha:PE X a ta) (hb:PE X b tb) (hm:behindInMarks op b=false):PT X (.Compare a [op] [b] pos) (iL (wM r ta tb)):=by
 intro pins s σ H Q I h
 refine wpAny_isTrue_Compare1 (mF (ha pins s σ H _ I h) λv s1 ⟨x,H1,I1,r1,q1⟩=>mF (hb pins s1 σ H1 _ I1 q1) λu s2 ⟨y,H2,I2,r2,q2⟩=>
  mF (ho pins s2 σ H2 x y v u _ I2 r1 r2 q2) λc s3 ⟨z,H3,I3,r3,k,e,q3⟩=>?_) hm
 subst e
 cases r3
 exact TC ⟨H3,I3,q3⟩
noncomputable def TruV (K:PySem.W.Frag) (x:V) (H:Hp) (k:Bool):Prop:=
 match x with
 |.non=>k=false
 |.bl b=>k=b
 |.int i=>k=(i != 0)
 |.str y=>y.length<=sizeLine/\k=((y.length:Int) != 0)
 |.byt y=>y.size<=sizeLine/\k=((y.size:Int) != 0)
 |.ref p=>(∃xs,xE K H p xs/\k= !xs.isEmpty)\/(∃xs,oF K H p xs/\k= !xs.isEmpty)\/∃kvs,H p=some (.dK kvs)/\k= !kvs.isEmpty
 |_=>False
theorem dI:(sizeLine:Nat) < 2 ^ 63:=by rw[ID];decide
theorem QH {x:V} {us:List Value} (r:BE [x] us):∃u,us=[u]/\FE x u:=by
 cases r with
 |cons r1 r2=>cases r2;exact⟨_,rfl,r1⟩
theorem gP {x y:V} {us:List Value} (r:BE [x,y] us):∃u w',us=[u,w']/\FE x u/\FE y w':=by
 cases r with
 |cons r1 r2=>
  cases r2 with
  |cons r3 r4=>cases r4;exact⟨_,_,rfl,r1,r3⟩
theorem iY (hc:X.calm=true):zG X (.builtin "max") (λxs H Q=>∃i j,xs=[.int i,.int j]/\Q (.int (if j > i then j else i)) H):=by
 intro pins s σ H xs us Q I r h
 obtain⟨i,j,rfl,q⟩:=h
 obtain⟨u,w',rfl,⟨t,rfl⟩,⟨t',rfl⟩⟩:=gP r
 refine max_two_ints (I.ok.hd hc) λh' tk k=>⟨_,H,I.kept k,?_,q⟩
 by_cases hj:j > i
 ·rw[iA hj,iA hj];exact⟨_,rfl⟩
 ·rw[fA hj,fA hj];exact⟨_,rfl⟩
noncomputable def wS (K:PySem.W.Frag) (x:V) (H:Hp) (n:Nat):Prop:=
 match x with
 |.str y=>y.length<=sizeLine/\n=y.length
 |.byt y=>y.size<=sizeLine/\n=y.size
 |.ref p=>(∃xs,xE K H p xs/\n=xs.length)\/∃xs,oF K H p xs/\n=xs.length
 |_=>False
theorem MG:zG X (.builtin "len") (λxs H Q=>∃x n,xs=[x]/\wS X.K x H n/\Q (.int n) H):=by
 intro pins s σ H xs us Q I r h
 obtain⟨x,n,rfl,e,q⟩:=h
 obtain⟨u,rfl,rx⟩:=QH r
 have hl:=dI
 have hs:sizeLine=16777216:=ID
 cases x with
 |str y=>
  obtain⟨t,rfl⟩:=rx
  obtain⟨hy,e'⟩:y.length<=sizeLine/\n=y.length:=e
  subst e'
  exact len_str (by omega) ⟨.int _,H,I.tok _,⟨_,rfl⟩,q⟩
 |byt y=>
  obtain⟨t,rfl⟩:=rx
  obtain⟨hy,e'⟩:y.size<=sizeLine/\n=y.size:=e
  subst e'
  exact PySem.W.len_bytes (by omega) ⟨.int _,H,I.tok _,⟨_,rfl⟩,q⟩
 |ref p=>
  cases rx
  have e':(∃xs,xE X.K H p xs/\n=xs.length)\/∃xs,oF X.K H p xs/\n=xs.length:=e
  rcases e' with ⟨xs,hx,e'⟩|⟨xs,hx,e'⟩
  ·subst e'
   obtain⟨its,r',pl,hz⟩:=I.list hx
   have hlen:=r'.length
   exact Calls.call_len_list pl.isList (by simp only[JA];omega) ⟨.int xs.length,H,I.tok _,⟨_,by simp only[JA];rw[hlen]⟩,q⟩
  ·subst e'
   obtain⟨its,r',pl,hz⟩:=I.tuple hx
   have hlen:=r'.length
   exact len_tuple pl (by simp only[JA];omega) ⟨.int xs.length,H,I.tok _,⟨_,by simp only[JA];rw[hlen]⟩,q⟩
 |_=>exact (show False from e).elim
end
end L2
namespace L2
open PySem PySem.Spec PyProof.Rows
structure QI (h:Heap) (x dx C:Addr) (mA:Str->Option Value):Prop where
 obj:h.get? x=some (PySem.W.instObj C dx)
 ns:h.Ns1 dx mA
 ne:dx≠x
theorem O4 {h:Heap} {dx:Addr} {mA:Str->Option Value} (n:h.Ns1 dx mA):∃od,h.get? dx=some od/\∀name,PySem.W.lookIn name od=some (mA name):=by
 obtain⟨o,es,ep,ho,hd,hk,_,hm⟩:=n
 refine⟨o,ho,λname=>?_⟩
 have e:=hm name
 unfold nsFind findBy at e
 rw[<-Array.find?_toList] at e
 unfold PySem.W.lookIn
 rw[hd]
 dsimp only
 split
 ·rename_i y q
  rw[q] at e
  exact congrArg some e
 ·rename_i q
  rw[q] at e
  have a:es.toList.any (·.refKey)=false:=by
   rw[VD]
   intro y hy
   obtain⟨z,t,hkey⟩:=hk y (Array.mem_toList_iff.mp hy)
   simp[DictEntry.refKey,hkey]
  have a':¬es.toList.any (·.refKey)=true:=by rw[a];exact oA
  rw[fA a']
  exact congrArg some e
theorem QI.look {h:Heap} {x dx C:Addr} {mA:Str->Option Value} (I:QI h x dx C mA):∃od,PySem.W.InstAt h x (PySem.W.instObj C dx) C (some od)/\∀name,PySem.W.lookIn name od=some (mA name):=
 let ⟨od,ho,hl⟩:=O4 I.ns
 ⟨od,⟨I.obj,rfl,rfl,ho⟩,hl⟩
section
variable {prog:Program} {w:World} {A:Around} {E:Value->Shared->Prop} {s:Shared} {K:PySem.W.Frag} {x dx C f:Addr} {mA:Str->Option Value} {name:Str} {v:Value}
theorem P4 {expr:Bool} {Q:Value->Shared->Prop} (X:K.In s.heap) (I:QI s.heap x dx C mA) (hg:PySem.W.plainGet K C name=true) (hh:PySem.W.hasDictIn K C=true)
  (ha:PySem.W.findIn K (.ref C) name=some none) (hv:mA name=some v) (hv':PySem.W.handedIn v=true) (h:Q v {s with toks:=s.toks+1}):
  wpAny (model prog w) A (getAttr (.ref x) name expr) Q E s:=by
 obtain⟨od,J,hl⟩:=I.look
 exact PySem.W.get_value X J (PySem.W.plainGet_of hg).1 (PySem.W.findObj_own hh ha rfl (by rw[hl,hv])) hv' h
theorem Q4 {pl:Sem Bool} {Q:Value×List Value->Shared->Prop} (X:K.In s.heap) (I:QI s.heap x dx C mA) (hg:PySem.W.plainGet K C name=true)
  (hf:PySem.W.findIn K (.ref C) name=some (some (.ref f))) (ht:PySem.W.isFn K (.ref f)=true) (hv:mA name=none) (h:Q (.ref f,[.ref x]) s):
  wpAny (model prog w) A (getMethod (.ref x) name pl) Q E s:=by
 obtain⟨od,J,hl⟩:=I.look
 exact PySem.W.method_fn X J (PySem.W.plainGet_of hg).1 (PySem.W.plainGet_of hg).2 hf (YB.mp ht) (by show (PySem.W.lookIn name od).map (·.isSome)=some false;rw[hl,hv];rfl) h
theorem R4 {ns:List Str} {Q:Unit->Shared->Prop} (X:K.In s.heap) (I:QI s.heap x dx C mA)
  (hs:PySem.W.findIn K (.ref C) "__setattr__"=some (some (.builtin "object.__setattr__"))) (hp:PySem.W.plainOver K C=true) (ht:PySem.W.takerIn K C name=some none) (hh:PySem.W.hasDictIn K C=true)
  (hw:PySem.Within mA ns) (hsz:ns.length<=sizeLine)
  (h:∀h',QI h' x dx C (λy=>if y=name then some v else mA y)->Heap.SameBut dx s.heap h'->Q () {s with heap:=h',toks:=s.toks+2}):
  wpAny (model prog w) A (setAttr (.ref x) name v) Q E s:=by
 obtain⟨od,J,hl⟩:=I.look
 refine PySem.W.set_plain X J hs (PySem.W.osa_open (s:={s with toks:=s.toks+1}) (r:=none) X J hp ht λb=>?_)
 obtain⟨cd,hc,hd'⟩:=PySem.W.any_some hh
 have hx:s.heap.get? x=some ⟨.ref C,some dx,.plain, #[]⟩:=I.obj
 refine gA (DA (gA (gA (wpAny_loadPart hx (gA (PySem.W.Looks.here (s:={s with toks:=s.toks+1}) (PySem.W.looks_clsIn X hc) ?_))))))
 rw[hd']
 refine DA (a:=some dx) (gA (DA (gA ?_)))
 refine wpAny_nsSet1 (s:={s with toks:=s.toks+1}) I.ns λh' hn2 hs2=>?_
 obtain⟨oD,esD,epD,hoD,hdD,hcD⟩:=hn2.count (PySem.Within.cons name v hw)
 refine gA (wpAny_lookBehind hoD (by rw[hdD];exact pastItsLine_dict (EB hcD (by rw[WA];omega))) ?_)
 exact DA (h _ ⟨(hs2.2 _ (Ne.symm I.ne)).trans I.obj,hn2,I.ne⟩ hs2)
theorem S4 {R:Result->Shared->Prop} {vs:List Value} {kw:List (Str×Value)} (X:K.In s.heap) (hm:PySem.W.makesIn K C=true)
  (hi:PySem.W.findIn K (.ref C) "__init__"=some (some (.ref f))) (hf:PySem.W.typeIn K (.ref f)=some (.type "function"))
  (h:codeAny (model prog w) (A.under (.builtin "type.__call__" ⟨.ref C::vs,kw⟩)) (.call (.ref f) ⟨.ref (s.heap.objs.size+1)::vs,kw⟩) (PySem.W.InitBack (s.heap.objs.size+1) R)
   {s with heap:=(s.heap.push PySem.W.emptyDict).push (PySem.W.instObj C s.heap.objs.size)}):
  codeAny (model prog w) A (.call (.ref C) ⟨vs,kw⟩) R s:=by
 obtain⟨hh,g,d,t,os⟩:=s
 exact PySem.W.make_core (PySem.W.makes_of X hm) (PySem.W.looks_findIn X hi) (λself=>PySem.W.bind_fn X self hf) (.inl rfl) h
end
noncomputable def LE (f:Str) (v:V):List (Str×V)->List (Str×V)
 |[]=>[(f,v)]
 |(g,x)::r=>if g=f then (g,v)::r else (g,x)::LE f v r
theorem iP (f g:Str) (v:V):∀fs:List (Str×V),(LE f v fs).lookup g=if g=f then some v else fs.lookup g
 |[]=>by
  show List.lookup g [(f,v)]=_
  by_cases h:g=f
  ·have hb:(g == f)=true:=YB.mpr h
   simp only[List.lookup,hb,iA h]
  ·have hb:(g == f)=false:=CC.mpr h
   simp only[List.lookup,hb,fA h]
 |(k,x)::r=>by
  have ih:=iP f g v r
  rw[show LE f v ((k,x)::r)=(if k=f then (k,v)::r else (k,x)::LE f v r) from rfl]
  by_cases hk:k=f
  ·rw[iA hk]
   by_cases h:g=k
   ·have hb:(g == k)=true:=YB.mpr h
    simp only[List.lookup,hb,iA (h.trans hk)]
   ·have hb:(g == k)=false:=CC.mpr h
    simp only[List.lookup,hb,fA (λe:g=f=>h (e.trans hk.symm))]
  ·rw[fA hk]
   by_cases h:g=k
   ·have hb:(g == k)=true:=YB.mpr h
    simp only[List.lookup,hb,fA (λe:g=f=>hk (h.symm.trans e))]
   ·have hb:(g == k)=false:=CC.mpr h
    simp only[List.lookup,hb]
    exact ih
theorem xS (f:Str) (v:V):∀fs:List (Str×V),f∈(LE f v fs).map (·.1)/\∀g,g∈fs.map (·.1)->g∈(LE f v fs).map (·.1)
 |[]=>⟨by simp[LE],λg h=>by simp at h⟩
 |(k,x)::r=>by
  obtain⟨i1,i2⟩:=xS f v r
  rw[show LE f v ((k,x)::r)=(if k=f then (k,v)::r else (k,x)::LE f v r) from rfl]
  by_cases hk:k=f
  ·rw[iA hk]
   subst hk
   exact⟨by simp,λg h=>by simpa using h⟩
  ·rw[fA hk]
   refine⟨?_,λg h=>?_⟩
   ·rw[CA]
    exact jA _ i1
   ·rw[CA] at h ⊢
    rcases xA.mp h with e|e
    ·exact xA.mpr (.inl e)
    ·exact jA _ (i2 g e)
theorem jY (f:Str) (v:V):∀fs:List (Str×V),(LE f v fs).length<=fs.length+1
 |[]=>by simp[LE]
 |(k,x)::r=>by
  have ih:=jY f v r
  rw[show LE f v ((k,x)::r)=(if k=f then (k,v)::r else (k,x)::LE f v r) from rfl]
  by_cases hk:k=f
  ·rw[iA hk,WA,WA];omega
  ·rw[fA hk,WA,WA];omega
theorem IG.some_of {v:V} {o:Option Value} (r:IG (some v) o):∃u,o=some u/\FE v u:=by
 cases o with
 |none=>exact (show False from r).elim
 |some u=>exact⟨u,rfl,r⟩
theorem IG.none_of {o:Option Value} (r:IG none o):o=none:=by
 cases o with
 |none=>rfl
 |some u=>exact (show False from r).elim
theorem T4 {v:V} {u:Value} (r:FE v u):PySem.W.handedIn u=true:=by
 cases v with
 |non=>cases (show u=Value.none from r);rfl
 |bl b=>cases (show u=Value.bool b from r);rfl
 |int i=>obtain⟨t,e⟩:=(show ∃t,u=Value.int i t from r);cases e;rfl
 |str x=>obtain⟨t,e⟩:=(show ∃t,u=Value.str x t from r);cases e;rfl
 |byt b=>obtain⟨t,e⟩:=(show ∃t,u=Value.bytes b t from r);cases e;rfl
 |flt b=>obtain⟨t,e⟩:=(show ∃t,u=Value.float b t from r);cases e;rfl
 |ref a=>cases (show u=Value.ref a from r);rfl
 |ty n=>cases (show u=Value.type n from r);rfl
section
variable {P:Program} {w:World} {H H':Hp} {h h':Heap} {a C dx:Addr} {fs fs':List (Str×V)}
theorem ZQ (hok:rG P w H h) (e:H a=some (.ins C dx fs)):∃mA,QI h a dx C mA/\(∀f,IG (fs.lookup f) (mA f))/\PySem.Within mA (fs.map (·.1))/\fs.length<=1000/\H dx=some (.own a):=by
 obtain⟨d,z,ne,ob,mA,n,r,q⟩:=(show NE P w H h a (.ins C dx fs) from hok a _ e)
 exact⟨mA,⟨ob,n,ne⟩,r,q,z,d⟩
end
structure JI (K:PySem.W.Frag) (C:Addr):Prop where
 pg:PySem.W.plainGet K C Str.empty=true
 hd:PySem.W.hasDictIn K C=true
 po:PySem.W.plainOver K C=true
 sa:PySem.W.findIn K (.ref C) "__setattr__"=some (some (.builtin "object.__setattr__"))
theorem JI.get {K:PySem.W.Frag} {C:Addr} (c:JI K C) (f:Str):PySem.W.plainGet K C f=true:=c.pg
noncomputable def pF (K:PySem.W.Frag) (C:Addr) (f:Str):Prop:=PySem.W.findIn K (.ref C) f=some none
theorem pF.taker {K:PySem.W.Frag} {C:Addr} {f:Str} (n:pF K C f):PySem.W.takerIn K C f=some none:=by
 unfold PySem.W.takerIn
 rw[show PySem.W.findIn K (.ref C) f=some none from n]
 rfl
structure RI (K:PySem.W.Frag) (C:Addr) (m:Str) (f:Addr):Prop where
 at_:PySem.W.findIn K (.ref C) m=some (some (.ref f))
 fn:PySem.W.isFn K (.ref f)=true
 kp:PySem.W.keepIn K (.ref f)=true
section
variable {X:Cx} {pins:List (Addr×Obj)} {σ:St} {H:Hp} {s:Shared} {a C dx:Addr} {fs:List (Str×V)} {f:Str} {v:V} {A:Around} {E:Value->Shared->Prop}
theorem U4 {b:Bool} {Q:Value->Shared->Prop} (I:wE X pins σ H s) (e:H a=some (.ins C dx fs)) (c:JI X.K C) (n:pF X.K C f) (l:fs.lookup f=some v)
  (h:∀u s',wE X pins σ H s'->FE v u->Q u s'):wpAny (model X.prog X.w) A (getAttr (.ref a) f b) Q E s:=by
 obtain⟨mA,O,r,_,_,_⟩:=ZQ I.hok e
 obtain⟨u,hu,ru⟩:=IG.some_of (v:=v) (o:=mA f) (by rw[<-l];exact r f)
 exact P4 I.kIn O (c.get f) c.hd n hu (T4 ru) (h u _ (I.tok _) ru)
theorem kY {m:Str} {g:Addr} {pl:Sem Bool} {Q:Value×List Value->Shared->Prop} (I:wE X pins σ H s) (e:H a=some (.ins C dx fs)) (c:JI X.K C) (k:RI X.K C m g) (l:fs.lookup m=none)
  (h:Q (.ref g,[.ref a]) s):wpAny (model X.prog X.w) A (getMethod (.ref a) m pl) Q E s:=by
 obtain⟨mA,O,r,_,_,_⟩:=ZQ I.hok e
 have hn:mA m=none:=IG.none_of (by rw[<-l];exact r m)
 exact Q4 I.kIn O (c.get m) k.at_ k.fn hn h
theorem V4 {y:V} {u:Value} {Q:Unit->Shared->Prop} (I:wE X pins σ H s) (e:H a=some (.ins C dx fs)) (c:JI X.K C) (n:pF X.K C f) (hl:fs.length < 1000) (ry:FE y u)
  (h:∀s',wE X pins σ (upd H a (.ins C dx (LE f y fs))) s'->Q () s'):wpAny (model X.prog X.w) A (setAttr (.ref a) f u) Q E s:=by
 obtain⟨mA,O,r,wi,_,ho⟩:=ZQ I.hok e
 have hz:(fs.map (·.1)).length<=sizeLine:=by rw[lA,ID];omega
 refine R4 I.kIn O c.sa c.po n.taker c.hd wi hz λh' O' sb=>h _ ?_
 have hd:∃o,h'.get? dx=some o:=let ⟨o,_,_,e',_⟩:=O'.ns;⟨o,e'⟩
 refine I.write (x:=a) (e:=dx) (by rw[e];exact True.intro) (.inr ho) (λb q hb z=>(sb.2 b hb).trans z) hd ?_
 refine⟨by rw[AE O.ne];exact ho,?_,O.ne,O'.obj,_,O'.ns,λg=>?_,λg hg=>?_⟩
 ·have:=jY f y fs;omega
 ·show IG ((LE f y fs).lookup g) (if g=f then some u else mA g)
  rw[iP]
  by_cases q:g=f
  ·rw[iA q,iA q];exact ry
  ·rw[fA q,fA q];exact r g
 ·by_cases q:g=f
  ·rw[q];exact (xS f y fs).1
  ·refine (xS f y fs).2 g (wi g λz=>hg ?_)
   show (if g=f then some u else mA g)=none
   rw[fA q];exact z
theorem wE.made (I:wE X pins σ H s):wE X pins σ (upd (upd H s.heap.objs.size (.own (s.heap.objs.size+1))) (s.heap.objs.size+1) (.ins C s.heap.objs.size []))
  {s with heap:=(s.heap.push PySem.W.emptyDict).push (PySem.W.instObj C s.heap.objs.size)}:=by
 have e1:(s.heap.push PySem.W.emptyDict).get? s.heap.objs.size=some PySem.W.emptyDict:=OA s.heap rfl
 have e2:((s.heap.push PySem.W.emptyDict).push (PySem.W.instObj C s.heap.objs.size)).get? (s.heap.objs.size+1)=some (PySem.W.instObj C s.heap.objs.size):=by
  have:=OA (s.heap.push PySem.W.emptyDict) (o:=PySem.W.instObj C s.heap.objs.size) rfl
  rwa[Heap.size_push] at this
 have e3:(s.heap.push PySem.W.emptyDict).Ns s.heap.objs.size (λ_=>none):=⟨PySem.W.emptyDict, #[],_,e1,rfl,(λe he=>absurd he (by simp)),λ_=>rfl⟩
 have I1:=I.laid (a:=s.heap.objs.size) (o:=.own (s.heap.objs.size+1)) (h':=s.heap.push PySem.W.emptyDict) (t':=s.toks) (λb u q=>sA _ q) (pA _) ⟨_,e1⟩
 refine I1.laid (a:=s.heap.objs.size+1) (o:=.ins C s.heap.objs.size []) (t':=s.toks) (λb u q=>sA _ q) (Nat.le_of_eq (Heap.size_push _ _)) ?_
 have ne:s.heap.objs.size≠s.heap.objs.size+1:=VA (dE _)
 refine⟨by rw[AE ne,bF],fC _,ne,e2,λ_=>none,(Heap.Ns1.of_empty e3).at λo q=>sA _ q,λ_=>True.intro,λy hy=>absurd rfl hy⟩
theorem W4 {prog:Program} {w:World} {env:Env} {e:Expr} {f:Str} {pos:Pos} {s:Shared} {Q:Value->Shared->Prop} (hb:attributeBase e f env (eval e env)=eval e env)
  (h:wpAny (model prog w) A (eval e env) (λo s₁=>wpAny (model prog w) A (getAttr o f true) Q E s₁) E s):wpAny (model prog w) A (eval (.Attribute e f pos) env) Q E s:=
 Attribute_any_ h (by rw[arm_eval_Attribute,hb])
end
noncomputable def jP (K:PySem.W.Frag) (ta:TE) (f:Str):TE:=λσ H Q=>ta σ H λx H1=>∃a C dx fs v,x=.ref a/\H1 a=some (.ins C dx fs)/\JI K C/\pF K C f/\fs.lookup f=some v/\Q v H1
noncomputable def kP (K:PySem.W.Frag) (ta tv:TE) (f:Str):TS:=λD σ H=>tv σ H λy H1=>ta σ H1 λx H2=>∃a C dx fs,x=.ref a/\H2 a=some (.ins C dx fs)/\JI K C/\pF K C f/\fs.length < 1000/\
 D.nx σ (upd H2 a (.ins C dx (LE f y fs)))
section
variable {X:Cx} {o e value:Expr} {f:Str} {pos pos' tpos:Pos} {ta tv:TE}
theorem YE (he:PE X e ta) (hb:attributeBase e f X.env (eval e X.env)=eval e X.env):PE X (.Attribute e f pos) (jP X.K ta f):=by
 intro pins s σ H Q I h
 refine W4 hb (mF (he pins s σ H _ I h) λu s1 ⟨x,H1,I1,rx,a,C,dx,fs,v,ex,ea,c,n,l,q⟩=>?_)
 subst ex
 obtain rfl:u=Value.ref a:=rx
 exact U4 I1 ea c n l λu' s2 I2 ru=>⟨v,H1,I2,ru,q⟩
theorem SI (ha:PE X o ta) (hv:PE X value tv) (hs:swapsWith value (some (.Attribute o f pos')) pos.line X.env=pure false):PS X (.Assign [.Attribute o f pos'] value pos) (kP X.K ta tv f):=by
 intro pins s σ H D I h
 refine plainObj_wpAny_Assign_Attribute (mF (hv pins s σ H _ I h) λu s1 ⟨y,H1,I1,ry,q⟩=>mF (ha pins s1 σ H1 _ I1 q) λov s2 ⟨x,H2,I2,rx,a,C,dx,fs,ex,ea,c,n,l,q2⟩=>?_) hs
 subst ex
 obtain rfl:ov=Value.ref a:=rx
 exact V4 I2 ea c n l ry λs3 I3=>⟨σ,_,I3,q2⟩
end
section
variable {X:Cx} {pins:List (Addr×Obj)} {σ:St} {H:Hp} {s:Shared} {A:Around} {E:Value->Shared->Prop} {Q:Value->Shared->Prop} {c:Value} {b:Bool}
inductive WG (K:PySem.W.Frag) (H:Hp):V->Value->Prop where
 |non:WG K H .non (.type "NoneType")
 |bl (x:Bool):WG K H (.bl x) (.type "bool")
 |int (i:Int):WG K H (.int i) (.type "int")
 |str (x:Str):WG K H (.str x) (.type "str")
 |flt (x:UInt64):WG K H (.flt x) (.type "float")
 |lst {a:Addr} {xs:List V} (e:H a=some (.lst xs)):WG K H (.ref a) (.type "list")
 |frz {a:Addr} {o:Obj} {xs:List V} (e:H a=some (.frz o (.lst xs))):WG K H (.ref a) (.type "list")
 |tup {a:Addr} {xs:List V} (e:H a=some (.tup xs)):WG K H (.ref a) (.type "tuple")
 |dK {a:Addr} {kvs:List (Key×V)} (e:H a=some (.dK kvs)):WG K H (.ref a) (.type "dict")
 |dT {a:Addr} {kvs:List (List Key×V)} (e:H a=some (.dT kvs)):WG K H (.ref a) (.type "dict")
 |ins {a C dx:Addr} {fs:List (Str×V)} (e:H a=some (.ins C dx fs)) (cl:JI K C) (ha:PySem.W.findIn K (.ref C) "__class__"=some (some (.builtin "object.__class__")))
  (hn:PySem.W.specialIn K (.builtin "object.__class__") "__get__"=some (some (.builtin "getset_descriptor.__get__"))) (htk:PySem.W.takesIn K (.builtin "object.__class__")=some true)
  (hm:PySem.W.mroIn K C (.type "object")=some true):WG K H (.ref a) (.ref C)
theorem X4 {x:V} {u t:Value} (I:wE X pins σ H s) (rx:FE x u) (ty:WG X.K H x t) (e:PySem.W.kitOne X.K t c=some b) (h:∀tk,Q (.bool b) {s with toks:=tk}):
  wpAny (model X.prog X.w) A (call (.builtin "isinstance") [u,c]) Q E s:=by
 cases ty with
 |non=>cases (show u=Value.none from rx);exact PySem.W.kia_one PySem.W.kitx_none I.kIn True.intro e (λz=>nomatch z) h
 |bl y=>cases (show u=Value.bool y from rx);exact PySem.W.kia_one PySem.W.kitx_bool I.kIn True.intro e (λz=>nomatch z) h
 |int i=>obtain⟨t,q⟩:=(show ∃t,u=Value.int i t from rx);cases q;exact PySem.W.kia_one PySem.W.kitx_int I.kIn True.intro e (λz=>nomatch z) h
 |str y=>obtain⟨t,q⟩:=(show ∃t,u=Value.str y t from rx);cases q;exact PySem.W.kia_one PySem.W.kitx_str I.kIn True.intro e (λz=>nomatch z) h
 |flt y=>obtain⟨t,q⟩:=(show ∃t,u=Value.float y t from rx);cases q;exact PySem.W.kia_one PySem.W.kitx_float I.kIn True.intro e (λz=>nomatch z) h
 |@lst a xs ea=>
  cases (show u=Value.ref a from rx)
  obtain⟨_,_,n,_,h1⟩:=(show NE X.prog X.w H s.heap a (.lst xs) from I.hok a _ ea)
  exact PySem.W.kia_one PySem.W.kitx_list I.kIn ⟨_,h1,rfl⟩ e (λz=>nomatch z) h
 |@frz a ob xs ea=>
  cases (show u=Value.ref a from rx)
  obtain⟨_,_,_,n,_,h1⟩:=(show NE X.prog X.w H s.heap a (.frz ob (.lst xs)) from I.hok a _ ea)
  exact PySem.W.kia_one PySem.W.kitx_list I.kIn ⟨_,h1,rfl⟩ e (λz=>nomatch z) h
 |@tup a xs ea=>
  cases (show u=Value.ref a from rx)
  obtain⟨_,_,_,p⟩:=(show NE X.prog X.w H s.heap a (.tup xs) from I.hok a _ ea)
  obtain⟨o,h1,h2,_⟩:=p
  exact PySem.W.kia_one PySem.W.kitx_tuple I.kIn ⟨o,h1,h2⟩ e (λz=>nomatch z) h
 |@dK a kvs ea=>
  cases (show u=Value.ref a from rx)
  obtain⟨_,_,vs,_,p⟩:=(show NE X.prog X.w H s.heap a (.dK kvs) from I.hok a _ ea)
  obtain⟨o,es,ep,h1,h2,_⟩:=p
  exact PySem.W.kia_one PySem.W.kitx_dict I.kIn ⟨o,h1,h2.1⟩ e (λz=>nomatch z) h
 |@dT a kvs ea=>
  cases (show u=Value.ref a from rx)
  obtain⟨_,_,xs,_,o,es,ep,h1,h2,_⟩:=(show NE X.prog X.w H s.heap a (.dT kvs) from I.hok a _ ea)
  exact PySem.W.kia_one PySem.W.kitx_dict I.kIn ⟨o,h1,h2.1⟩ e (λz=>nomatch z) h
 |@ins a C dx fs ea cl ha hn htk hm=>
  cases (show u=Value.ref a from rx)
  obtain⟨mA,O,_⟩:=ZQ I.hok ea
  obtain⟨od,J,_⟩:=O.look
  exact PySem.W.kia_one (PySem.W.kitx_own (cl.get _) cl.hd ha hn htk hm) I.kIn J e (λz=>nomatch z) h
end
end L2
namespace L2
open PySem PySem.Spec PyProof.Rows
structure CF (k:Nat) (A:Around):Prop where
 hd:A.handled=none
 dp:A.depth+3 * k+5 < recursionLimit
 un:A.units+16 * k+200 < cLine
theorem CF.mono {j k:Nat} {A:Around} (r:CF k A) (h:j<=k):CF j A:=⟨r.hd,by have:=r.dp;omega,by have:=r.un;omega⟩
theorem CF.deeper {k:Nat} {A:Around} (r:CF (k+1) A) (env:Env):CF k (A.deeper env):=
 ⟨r.hd,by have:=r.dp;show A.depth+1+3 * k+5 < _;omega,by have:=r.un;show A.units+3+16 * k+200 < _;omega⟩
theorem Y4 {A:Around} {C:Addr} {us:List Value} {kw:List (Str×Value)}:(A.under (.builtin "type.__call__" ⟨.ref C::us,kw⟩)).depth=A.depth+1:=by
 first|rfl|simp[Around.under,Code.weight,Code.isCreation,Code.isGuard,Code.isCaller,Code.frames,Code.isFrame,guardIds]
theorem Z4 {A:Around} {C:Addr} {us:List Value} {kw:List (Str×Value)}:(A.under (.builtin "type.__call__" ⟨.ref C::us,kw⟩)).units=A.units+1:=by
 first|rfl|simp[Around.under,Code.cUnits,Code.frames,Code.isFrame]
theorem CF.make {k:Nat} {A:Around} (r:CF (k+1) A) (C:Addr) (us:List Value) (kw:List (Str×Value)):CF k (A.under (.builtin "type.__call__" ⟨.ref C::us,kw⟩)):=
 ⟨r.hd,by have:=r.dp;rw[Y4];omega,by have:=r.un;rw[Z4];omega⟩
theorem CF.depth {k:Nat} {A:Around} (r:CF k A):A.depth < recursionLimit:=by have:=r.dp;omega
theorem CF.units {k:Nat} {A:Around} (r:CF k A):A.units+64 < cLine:=by have:=r.un;omega
noncomputable def tNil:TA:=λ_ H Q=>Q [] H
noncomputable def jL (ta:TE) (tr:TA):TA:=λσ H Q=>ta σ H λx H1=>tr σ H1 λxs H2=>Q (x::xs) H2
section
variable {X:Cx} {e:Expr} {es:List Expr} {te:TE} {t:TA} {pos:Pos}
theorem zE:PA X [] tNil:=λ_ _ _ _ H Q I h=>Calls.spliced_nil ⟨[],H,I,.nil,h⟩
theorem sE (ha:PE X e te) (hr:PA X es t) (hs:starEach (e::es) X.env=(false,eval e X.env)::starEach es X.env:=by rfl):PA X (e::es) (jL te t):=by
 intro pos pins s σ H Q I h
 rw[hs]
 show wpAny _ _ (spliced ((false,eval e X.env)::backTo pos (starEach es X.env))) _ _ s
 refine LD (mF (ha pins s σ H _ I h) λu s1 ⟨x,H1,I1,r1,q1⟩=>?_)
 exact mF (hr pos pins s1 σ H1 _ I1 q1) λus s2 ⟨xs,H2,I2,r2,q2⟩=>⟨x::xs,H2,I2,.cons r1 r2,q2⟩
noncomputable def lP (t:TA):TE:=λσ H Q=>t σ H λxs H1=>xs.length<=sizeLine/\∀p,H1 p=none->Q (.ref p) (upd H1 p (.tup xs))
noncomputable def mP (t:TA):TE:=λσ H Q=>t σ H λxs H1=>xs.length<=sizeLine/\∀p,H1 p=none->Q (.ref p) (upd H1 p (.lst xs))
theorem mH {x1} (h:PA X es t):PE X (.Tuple es x1 pos) (lP t):=by
 intro pins s σ H Q I hq
 refine wpAny_Tuple_spliced (mF (h pos pins s σ H _ I hq) λus s1 ⟨xs,H1,I1,r,z,q⟩=>⟨by rw[<-r.length];exact z,?_⟩)
 have hf:H1 s1.heap.objs.size=none:=I1.hok.fresh (pA _)
 refine⟨.ref s1.heap.objs.size,upd H1 s1.heap.objs.size (.tup xs),I1.laid (t':=s1.toks) (λb u e=>sA _ e) (pA _) ?_,rfl,q _ hf⟩
 exact⟨z,us,r,⟨_,OA _ rfl,rfl,_,rfl⟩⟩
theorem lH (h:PA X es t):PE X (.List es pos) (mP t):=by
 intro pins s σ H Q I hq
 refine wpAny_List_spliced (mF (h pos pins s σ H _ I hq) λus s1 ⟨xs,H1,I1,r,z,q⟩=>⟨by rw[<-r.length];exact z,?_⟩)
 have hf:H1 s1.heap.objs.size=none:=I1.hok.fresh (pA _)
 refine⟨.ref s1.heap.objs.size,upd H1 s1.heap.objs.size (.lst xs),I1.laid (t':=s1.toks) (λb u e=>sA _ e) (pA _) ?_,rfl,q _ hf⟩
 exact⟨z,us,0,r,OA _ rfl⟩
end
noncomputable abbrev Sp:=List V->Hp->VK->XK->Prop
noncomputable abbrev CXT:=List Env->Hp->Shared->XK->Value->Shared->Prop
structure UI (P:Program) (w:World) (K:PySem.W.Frag) (mg:Str->Option Value) (base:Heap) (A:Around) (outer:List Env) (s:Shared) (H:Hp):Prop where
 frames:A.frames=some outer
 mod:Mod K mg base
 bs:∀b o,base.get? b=some o->s.heap.get? b=some o/\H b=none
 bsz:base.objs.size<=s.heap.objs.size
 funs:s.heap.FunFrames base outer
 frf:∀b∈fG outer,H b=none
 hok:rG P w H s.heap
 bare:AllBare s.gens
noncomputable def CE (outer:List Env) (P:Program) (w:World) (H:Hp) (s:Shared) (Q:VK) (u:Value) (s':Shared):Prop:=
 ∃v H',s'.os=s.os/\AllBare s'.gens/\Un (fG outer) [] H H' s.heap s'.heap/\rG P w H' s'.heap/\FE v u/\Q v H'
noncomputable def CR (CX:CXT) (outer:List Env) (P:Program) (w:World) (H:Hp) (s:Shared) (Q:VK) (E:XK) (r:Result) (s':Shared):Prop:=
 match r with
 |.ok (.ret u)=>CE outer P w H s Q u s'
 |.ok _=>False
 |.error e=>CX outer H s E e s'
structure NG (P:Program) (w:World) (K:PySem.W.Frag) (mg:Str->Option Value) (base:Heap) (CX:CXT) (k:Nat) (f:Addr) (fd:FuncData) (ps:List Str) (sp:Sp):Prop where
 len:∀vs H Q E,sp vs H Q E->vs.length=ps.length
 run:∀(A:Around) (outer:List Env) (s:Shared) (H:Hp) (args:Args) (us:List Value) (vs:List V) (Q:VK) (E:XK),CF k A->UI P w K mg base A outer s H->BindsTo s fd args (ps.zip us)->BE vs us->sp vs H Q E->
  codeAny (model P w) A (.call (.ref f) args) (CR CX outer P w H s Q E) s
theorem NG.mono {P:Program} {w:World} {K:PySem.W.Frag} {mg:Str->Option Value} {base:Heap} {CX:CXT} {j k:Nat} {f:Addr} {fd:FuncData} {ps:List Str} {sp:Sp} (F:NG P w K mg base CX j f fd ps sp) (h:j<=k):
 NG P w K mg base CX k f fd ps sp:=⟨F.len,λA outer s H args us vs Q E hr=>F.run A outer s H args us vs Q E (hr.mono h)⟩
theorem UI.make {P:Program} {w:World} {K:PySem.W.Frag} {mg:Str->Option Value} {base:Heap} {A:Around} {outer:List Env} {s:Shared} {H:Hp} (e:UI P w K mg base A outer s H) (C:Addr) (us:List Value) (kw:List (Str×Value)):
 UI P w K mg base (A.under (.builtin "type.__call__" ⟨.ref C::us,kw⟩)) outer s H:=⟨by first|exact e.frames|(simpa[Around.under,Code.envs,Code.isFrame,pushEnvs] using e.frames),e.mod,e.bs,e.bsz,e.funs,e.frf,e.hok,e.bare⟩
section
variable {X:Cx} {pins:List (Addr×Obj)} {σ:St} {H:Hp} {s s':Shared}
theorem wE.env0 (I:wE X pins σ H s):UI X.prog X.w X.K X.mg X.base X.A X.stack s H:=
 ⟨I.ok.frames,I.ok.mod,I.bs,EB I.ok.bsz I.sz,I.stack,I.stkFree,I.hok,I.bare⟩
theorem wE.after {Q:VK} {u:Value} (I:wE X pins σ H s) (h:CE X.stack X.prog X.w H s Q u s'):EP X pins σ Q u s':=by
 obtain⟨v,H',os,bare,un,hok,r,q⟩:=h
 obtain⟨hh,g,d,t,os'⟩:=s'
 obtain rfl:os'=s.os:=os
 exact⟨v,H',I.call (h':=hh) (g':=g) (d':=d) (t':=t) (ch:=[]) un hok bare (λb z=>absurd z (by simp)),r,q⟩
end
noncomputable def kG (K:PySem.W.Frag) (fd:FuncData) (ps:List Str) (ds:List Value):Prop:=
 ∀(s:Shared) (us:List Value),K.In s.heap->(us++ds).length=ps.length->BindsTo s fd ⟨us,[]⟩ (ps.zip (us++ds))
theorem kG.all {K:PySem.W.Frag} {fd:FuncData} {ps:List Str} (h:∀us:List Value,us.length=ps.length->bindArgs fd ⟨us,[]⟩=pure (ps.zip us)):kG K fd ps []:=λs us _ hl=>by
 rw[wC] at hl ⊢
 exact .of_eq (h us hl)
section
variable {X:Cx} {CX:CXT} {k:Nat} {f C:Addr} {fd:FuncData} {ps:List Str} {sp:Sp} {dvs:List V} {ds:List Value} {E:XK} {x m:Str} {p pos apos:Pos} {e o:Expr} {es:List Expr} {ta:TE} {t:TA}
structure Mk (K:PySem.W.Frag) (C f:Addr):Prop where
 makes:PySem.W.makesIn K C=true
 init:PySem.W.findIn K (.ref C) "__init__"=some (some (.ref f))
 fn:PySem.W.isFn K (.ref f)=true
 kp:PySem.W.keepIn K (.ref C)=true
end
section
variable {X:Cx} {CX:CXT} {k:Nat} {f C:Addr} {fd:FuncData} {ps ks:List Str} {sp:Sp} {E:XK} {x m:Str} {p pos apos kpos:Pos} {e o:Expr} {es:List Expr} {kws:List Keyword} {te ta:TE} {t tk:TA} {nm:Option Str}
variable {g:List Value->List Value->List Value} {gV:List V->List V->List V}
end
structure tE (N P:List Str) (sc:Scope):Prop where
 kind:sc.kind=.function
 co:sc.isCoroutine=false
 gen:sc.isGenerator=false
 nd:N.Nodup
 pre:N.take P.length=P
 par:∀x∈P,sc.names.lookup x=some .local\/sc.names.lookup x=some .cell
 nofree:∀y∈sc.names,y.2≠.free
theorem lY {kindOf:Str->Option NameKind} {x:Str}:∀{binds:List (Str×Value)} {m:Str->Option Value},(∀v,(x,v)∉binds)->bindL kindOf binds m x=m x
 |[],_,_=>rfl
 |(n,v)::r,m,h=>by
  unfold bindL
  rw[lY λw hw=>h w (jA _ hw)]
  split
  ·have:x≠n:=by rintro rfl;exact h v wA
   simp[this]
  ·rfl
theorem mY {kindOf:Str->Option NameKind} {x:Str}:∀{binds:List (Str×Value)} {m:Str->Option Value},(∀v,(x,v)∉binds)->bindC kindOf binds m x=m x
 |[],_,_=>rfl
 |(n,v)::r,m,h=>by
  unfold bindC
  rw[mY λw hw=>h w (jA _ hw)]
  split
  ·rfl
  ·have:x≠n:=by rintro rfl;exact h v wA
   simp[this]
theorem nY {kindOf:Str->Option NameKind} {x:Str} {v:Value}:∀{P:List Str} {vs:List Value} {i:Nat} {m:Str->Option Value},P.Nodup->P[i]?=some x->vs[i]?=some v->kindOf x=some .local->
  bindL kindOf (P.zip vs) m x=some v
 |[],_,_,_,_,h,_,_=>by simp at h
 |_::_,[],_,_,_,_,h,_=>by simp at h
 |p::P,w::vs,0,m,nd,h1,h2,hk=>by
  simp at h1 h2;subst h1;subst h2
  show bindL kindOf ((p,w)::P.zip vs) m p=_
  unfold bindL
  rw[lY λv hv=>(gB.mp nd).1 (kE hv).1,iA hk]
  simp
 |p::P,w::vs,i+1,m,nd,h1,h2,hk=>by
  show bindL kindOf ((p,w)::P.zip vs) m x=_
  unfold bindL
  exact nY (i:=i) (gB.mp nd).2 (by simpa using h1) (by simpa using h2) hk
theorem oY {kindOf:Str->Option NameKind} {x:Str} {v:Value}:∀{P:List Str} {vs:List Value} {i:Nat} {m:Str->Option Value},P.Nodup->P[i]?=some x->vs[i]?=some v->kindOf x≠some .local->
  bindC kindOf (P.zip vs) m x=some v
 |[],_,_,_,_,h,_,_=>by simp at h
 |_::_,[],_,_,_,_,h,_=>by simp at h
 |p::P,w::vs,0,m,nd,h1,h2,hk=>by
  simp at h1 h2;subst h1;subst h2
  show bindC kindOf ((p,w)::P.zip vs) m p=_
  unfold bindC
  rw[mY λv hv=>(gB.mp nd).1 (kE hv).1,fA hk]
  simp
 |p::P,w::vs,i+1,m,nd,h1,h2,hk=>by
  show bindC kindOf ((p,w)::P.zip vs) m x=_
  unfold bindC
  exact oY (i:=i) (gB.mp nd).2 (by simpa using h1) (by simpa using h2) hk
noncomputable def BG (N:List Str) (vs:List V):St:=vs.map some++List.replicate (N.length - vs.length) none
noncomputable def gG (CX:CXT) (P:Program) (w:World) (K:PySem.W.Frag) (mg:Str->Option Value) (base:Heap) (N:List Str) (qual:Str) (scope:Scope) (f:Addr) (cd:Value) (A:Around) (outer:List Env) (s:Shared) (H:Hp) (E:XK):Cx where
 prog:=P
 w:=w
 K:=K
 mg:=mg
 base:=base
 A:=A.deeper (envOfC qual scope s.heap.objs.size f cd)
 N:=N
 s₀:=s
 H₀:=H
 env:=envOfC qual scope s.heap.objs.size f cd
 outer:=outer
 stack:=envOfC qual scope s.heap.objs.size f cd::outer
 ex:=[]
 calm:=true
 fn:=λ_=>true
 pn:=[]
 xe:=λe s'=>wpAny (model P w) (A.deeper (envOfC qual scope s.heap.objs.size f cd)) (leaving (envOfC qual scope s.heap.objs.size f cd) e) (λ_ s''=>CX outer H s E e s'') (λe' s''=>CX outer H s E e' s'') s'
theorem pY {sc:Scope} {n:Nat} {x:Str} (h:sc.names.lookup x=some .cell):∃c,(cellsFrom n sc.names []).lookup x=some c:=by
 have q:=PySem.W.cellsFrom_some sc.names n [] (.inl h)
 exact Option.isSome_iff_exists.mp q
theorem i5 {CX:CXT} {P:Program} {w:World} {K:PySem.W.Frag} {mg:Str->Option Value} {base:Heap} {N ps:List Str} {qual:Str} {scope:Scope} {f:Addr} {cd:Value} {A:Around} {outer:List Env} {s s1:Shared} {H:Hp} {E:XK} {us:List Value} {vs:List V}
  (S:tE N ps scope) (hd:A.handled=none) (e0:UI P w K mg base A outer s H) (hl:vs.length=ps.length) (r:BE vs us)
  (x:InCallC s s.heap.objs.size (bindL (envOfC qual scope s.heap.objs.size f cd).kindOf (ps.zip us) λ_=>none) (cellsFrom (s.heap.objs.size+1) scope.names []) (bindC (envOfC qual scope s.heap.objs.size f cd).kindOf (ps.zip us) λ_=>none) s1):
  wE (gG CX P w K mg base N qual scope f cd A outer s H E) [] (BG N vs) H s1:=by
 have hpl:ps.length<=N.length:=by have:=congrArg List.length S.pre;rw[XA] at this;omega
 obtain⟨h1,tk,rfl,hk⟩:=x.done
 have noA:∀b:Addr,b∉(gG CX P w K mg base N qual scope f cd A outer s H E).ex:=λb z=>absurd (show b∈([]:List Addr) from z) (by simp)
 refine⟨⟨e0.mod,S.kind,rfl,rfl,pA _,λy z c h1 h2=>?_,λy hy=>?_,λy c _ h=>?_,λ_=>hd,Around.frames_deeper e0.frames,.inr ⟨rfl,rfl⟩,λb z=>absurd z (noA b),e0.bs,e0.bsz,λb _ _=>noA b,λb z=>absurd z (noA b),e0.funs,e0.frf⟩,
  rfl,e0.bare,Un.kept hk,⟨_,x.toInCall.ns,λi y v h1 h2 h3=>?_⟩,λy c h=>⟨_,x.cell y c h⟩,e0.hok.fresh (pA _),λy c h=>?_,λp hp=>absurd (show p∈([]:List (Addr×Obj)) from hp) (by simp),e0.hok.kept hk,?_⟩
 ·exact name_of_addr x.apart (PySem.mem_of_lookup h1) (PySem.mem_of_lookup h2)
 ·have hy:scope.names.lookup y=some .cell\/scope.names.lookup y=some .free:=hy
  rcases hy with hy|hy
  ·exact pY hy
  ·exact absurd rfl (S.nofree _ (PySem.mem_of_lookup hy))
 ·exact gE (x.above y c (PySem.mem_of_lookup h))
 ·have hi:i < vs.length:=by
   unfold BG at h2
   by_cases hi:i < vs.length
   ·exact hi
   ·rw[sB (by simpa using hi)] at h2
    rw[kD] at h2
    split at h2<;>cases h2
  have ha:vs[i]?=some v:=by
   unfold BG at h2
   rw[bD (by simpa using hi),NA] at h2
   cases e:vs[i]? with
   |none=>rw[e] at h2;cases h2
   |some a=>rw[e] at h2;cases h2;rfl
  obtain⟨u,hu,rv⟩:=r.get ha
  have hp:ps[i]?=some y:=by
   rw[<-S.pre,List.getElem?_take_of_lt (by omega)];exact h1
  have ndP:ps.Nodup:=by rw[<-S.pre];exact S.nd.sublist (AC _ _)
  refine⟨u,rv,?_⟩
  rcases S.par y (dA hp) with k|k
  ·exact .inl ⟨k,nY ndP hp hu k⟩
  ·obtain⟨c,e⟩:=pY (n:=s.heap.objs.size+1) k
   refine .inr ⟨.inl k,c,e,?_⟩
   have q:=x.cell y c e
   rw[oY ndP hp hu (by show scope.names.lookup y≠_;rw[k];decide)] at q
   exact q
 ·exact e0.hok.fresh (gE (x.above y c (PySem.mem_of_lookup h)))
 ·unfold BG
  show _=N.length
  rw[nA,lA,FA]
  omega
theorem yS {CX:CXT} {P:Program} {w:World} {K:PySem.W.Frag} {mg:Str->Option Value} {base:Heap} {k:Nat} {f:Addr} {name qual:Str} {params:Arguments} {body:List Stmt} {scope:Scope} {dV kV doc pm cdv ct oc:Value} {an od:Option Addr}
  {osl:Array (Option Value)} {N ps:List Str} {sp:Sp} (lk:K.lookup f=some ⟨oc,od,.func (PySem.W.fnOf name qual params body scope dV kV doc pm an cdv ct),osl⟩) (hcd:PySem.W.codeIn K cdv qual=true) (S:tE N ps scope)
  (len:∀vs H Q E,sp vs H Q E->vs.length=ps.length)
  (hbody:∀(A:Around) (outer:List Env) (s:Shared) (H:Hp) (vs:List V) (Q:VK) (E:XK),CF k (A.deeper (envOfC qual scope s.heap.objs.size f cdv))->sp vs H Q E->
   ∃t,oI (gG CX P w K mg base N qual scope f cdv A outer s H E) body t/\t {nx:=λ_ H'=>Q .non H',rt:=Q} (BG N vs) H):
  NG P w K mg base CX (k+1) f (PySem.W.fnOf name qual params body scope dV kV doc pm an cdv ct) ps sp:=by
 refine⟨len,λA outer s H args us vs Q E hr e0 hb r hsp=>?_⟩
 have hl:=len _ _ _ _ hsp
 have KX:K.In s.heap:=e0.mod.kin.keeps λb o e=>(e0.bs b o e).1
 have lim:s.heap.NoLimit:=e0.mod.nolimit.keeps λb o e=>(e0.bs b o e).1
 have hkind:∀y∈ps.zip us,scope.names.lookup y.1=some .local\/(scope.names.lookup y.1=some .cell/\((cellsFrom (s.heap.objs.size+1) scope.names []).lookup y.1).isSome=true):=λ⟨n,v⟩ hy=>by
  rcases S.par n (kE hy).1 with q|q
  ·exact .inl q
  ·exact .inr ⟨q,PySem.W.cellsFrom_some _ _ _ (.inl q)⟩
 refine codeAny_call_function hr.depth (KX _ _ lk) rfl S.co S.gen rfl (PySem.W.codeRec_of KX hcd) (hb _ _ _ _ ?_)
 refine wpAny_newFunctionEnv_cells S.kind hkind λenv he s1 x=>?_
 subst he
 refine⟨lim.keeps x.toInCall.keep,codeAny_func ?_⟩
 obtain⟨t,ht,hq⟩:=hbody A outer s H vs Q E (hr.deeper _) hsp
 have I:wE (gG CX P w K mg base N qual scope f cdv A outer s H E) [] (BG N vs) H s1:=i5 S hr.hd e0 hl r x
 refine LB (ht [] s1 (BG N vs) H _ I hq) (λfl s' hs=>?_) λe s' hs=>hs
 have fin:∀{σ':St} {H':Hp} {v:V} {u:Value},wE (gG CX P w K mg base N qual scope f cdv A outer s H E) [] σ' H' s'->FE v u->Q v H'->CE outer P w H s Q u s':=
  λ{σ' H' v u} J rv q=>⟨v,H',J.os,J.bare,J.base,J.hok,rv,q⟩
 cases fl with
 |ret u=>
  obtain⟨v,σ',H',J,rv,q⟩:=hs
  exact fin J rv q
 |next=>
  obtain⟨σ',H',J,q⟩:=hs
  exact fin (v:=V.non) (u:=Value.none) J rfl q
 |brk=>
  obtain⟨_,_,_,q⟩:=hs
  exact False.elim q
 |cont=>
  obtain⟨_,_,_,q⟩:=hs
  exact False.elim q
end L2
namespace L2
open PySem PySem.Spec PyProof.Rows
section
variable {X:Cx} {x:Str} {p pos:Pos} {e:Expr} {es:List Expr} {t:TA} {id T:String} {r:List V->Hp->VK->Prop}
noncomputable def zS (r:List V->Hp->VK->Prop) (t:TA):TE:=λσ H Q=>t σ H λvs H1=>r vs H1 Q
theorem QF (hc:zG X (.builtin id) r) (hg:Gl X x) (hm:X.mg x=none) (hv:bootBuiltins x=some (.builtin id)) (ha:PA X (e::es) t) (hn:x≠"__name__":=by decide) (hdb:(x == ("__debug__":Str))=false:=by decide)
  (he:starEach (e::es) X.env=(false,eval e X.env)::starEach es X.env:=by rfl) (hpl:(backTo pos (starEach es X.env)).any (·.1)=false:=by rfl):PE X (.Call (.Name x p) (e::es) [] pos) (zS r t):=by
 intro pins s σ H Q I h
 refine iD (PO I hg hm hv ?_ hn hdb)
 exact PyProof.Rows.callWith_builtin1 (mF (ha pos pins s σ H _ I h) λus s1 ⟨vs,H1,I1,r1,q1⟩=>hc pins s1 σ H1 vs us Q I1 r1 q1) he hpl
theorem kO (hc:zG X (.type T) r) (hg:Gl X x) (hm:X.mg x=none) (hv:bootBuiltins x=some (.type T)) (ha:PA X (e::es) t) (hn:x≠"__name__":=by decide) (hdb:(x == ("__debug__":Str))=false:=by decide)
  (he:starEach (e::es) X.env=(false,eval e X.env)::starEach es X.env:=by rfl) (hpl:(backTo pos (starEach es X.env)).any (·.1)=false:=by rfl):PE X (.Call (.Name x p) (e::es) [] pos) (zS r t):=by
 intro pins s σ H Q I h
 refine iD (PO I hg hm hv ?_ hn hdb)
 exact QC (mF (ha pos pins s σ H _ I h) λus s1 ⟨vs,H1,I1,r1,q1⟩=>hc pins s1 σ H1 vs us Q I1 r1 q1) he hpl
end
end L2
namespace HT
open PySem PyProof.Rows
section
open PySem.SeqAt
open PySem.AutoSeq1 (wpAny_loadPart')
open PySem.MeetsSeq PySem.MeetsSeq2 PySem.MeetsSeq3
end
section
variable {prog:Program} {w:World} {A:Around} {E:Value->Shared->Prop} {s:Shared}
noncomputable def AS (n d:Nat):Option Int->Nat
 |none=>d
 |some v=>if v < 0 then (v+(n:Int)).toNat else min v.toNat n
end
end HT
namespace L2
open PySem PySem.Spec PyProof.Rows
noncomputable abbrev TO:=St->Hp->(Option Int->Hp->Prop)->Prop
section
variable {X:Cx} {e:Expr} {te:TE} {lo hi:Option Expr} {tl th:TO} {pos p2:Pos}
noncomputable def SlR (X:Cx) (r:V->Option Int->Option Int->Hp->VK->Prop):Prop:=
 ∀(pins:List (Addr×Obj)) (s:Shared) (σ:St) (H:Hp) (x:V) (v vl vu:Value) (lo hi:Option Int) (sl:Addr) (Q:VK),wE X pins σ H s->FE x v->s.heap.IsSliceOf sl vl vu .none->IsPart vl lo->IsPart vu hi->r x lo hi H Q->
  ∃T id,typeLookup (.type T) "__getitem__"=pure (some (.builtin id))/\s.TypeIs v T/\wpAny (model X.prog X.w) X.A (getItem v (.ref sl)) (EP X pins σ Q) X.xe s
noncomputable def BS (xs:List V) (lo hi:Option Int):List V:=(xs.drop (HT.AS xs.length 0 lo)).take (HT.AS xs.length xs.length hi - HT.AS xs.length 0 lo)
end
end L2
namespace L2
open PySem PySem.Spec PyProof.Rows
noncomputable def OJ (n:Nat) (i:Int):Option Nat:=if 0<=i then (if i < n then some i.toNat else none) else if -(n:Int)<=i then some (i+n).toNat else none
noncomputable def jJ {α:Type} (xs:List α) (i:Int):Option α:=(OJ xs.length i).bind λj=>xs[j]?
theorem qY {n:Nat} {i:Int} {j:Nat} (h:OJ n i=some j):seqIndex? i n=some j/\j < n/\ -(n:Int)<=i/\i < n:=by
 unfold OJ at h
 by_cases h0:0<=i
 ·rw[iA h0] at h
  by_cases h1:i < n
  ·rw[iA h1] at h
   have e:i.toNat=j:=cA h
   exact⟨by rw[seqIndex_of h0 h1,e],by omega,by omega,h1⟩
  ·rw[fA h1] at h;cases h
 ·rw[fA h0] at h
  by_cases h1: -(n:Int)<=i
  ·rw[iA h1] at h
   have e:(i+n).toNat=j:=cA h
   exact⟨by rw[seqIndex_neg (by omega) h1,e],by omega,h1,by omega⟩
  ·rw[fA h1] at h;cases h
theorem rY {α:Type} {xs:List α} {i:Int} {v:α} (h:jJ xs i=some v):∃j,seqIndex? i xs.length=some j/\xs[j]?=some v/\j < xs.length/\ -(xs.length:Int)<=i/\i < xs.length:=by
 unfold jJ at h
 cases e:OJ xs.length i with
 |none=>rw[e] at h;cases h
 |some j=>
  rw[e] at h
  obtain⟨h1,h2,h3,h4⟩:=qY e
  exact⟨j,h1,h,h2,h3,h4⟩
theorem HE {α:Type} {xs:List α} {j:Nat} {v:α} (h:xs[j]?=some v):jJ xs (j:Int)=some v:=by
 have hj:j < xs.length:=(aA.mp h).1
 have e:OJ xs.length (j:Int)=some j:=by
  unfold OJ
  rw[iA (by omega),iA (by omega)];simp
 unfold jJ;rw[e];exact h
noncomputable def EK (b:Expr):Prop:=∀o i,subscripted b false o i=operate [o,i] (getItem o i)
noncomputable def vK (X:Cx) (r:R2):Prop:=
 ∀(value slice:Expr) (pins:List (Addr×Obj)) (s:Shared) (σ:St) (H:Hp) (x y:V) (v u:Value) (Q:VK),wE X pins σ H s->FE x v->FE y u->r x y H Q->
  subscripted slice false v u=operate [v,u] (getItem v u)->wpAny (model X.prog X.w) X.A (subscriptTail value slice v u) (EP X pins σ Q) X.xe s
noncomputable def j5 (X:Cx) (id:String) (r:V->List V->Hp->VK->Prop):Prop:=
 ∀(pins:List (Addr×Obj)) (s:Shared) (σ:St) (H:Hp) (x:V) (xs:List V) (v:Value) (us:List Value) (Q:VK),wE X pins σ H s->FE x v->BE xs us->r x xs H Q->
  wpAny (model X.prog X.w) X.A (call (.builtin id) (v::us)) (EP X pins σ Q) X.xe s
section
variable {X:Cx} {a b:Expr} {ta tb:TE} {pos:Pos}
theorem vK.or {r r':R2} (h:vK X r) (h':vK X r'):vK X (λx y H Q=>r x y H Q\/r' x y H Q):=by
 intro value slice pins s σ H x y v u Q I rx ry q hs
 rcases q with q|q
 ·exact h value slice pins s σ H x y v u Q I rx ry q hs
 ·exact h' value slice pins s σ H x y v u Q I rx ry q hs
theorem IE {r:R2} (hr:vK X r) (ha:PE X a ta) (hb:PE X b tb) (hs:EK b):PE X (.Subscript a b pos) (wM r ta tb):=by
 intro pins s σ H Q I h
 exact Subscript_ (xM ha hb I h λv u s2 x y H2 I2 rx ry q=>hr a b pins s2 σ H2 x y v u Q I2 rx ry q (hs _ _))
noncomputable def FK (K:PySem.W.Frag):R2:=λx y H Q=>∃p xs i v,x=.ref p/\y=.int i/\xE K H p xs/\jJ xs i=some v/\Q v H
noncomputable def qJ (K:PySem.W.Frag):R2:=λx y H Q=>∃p xs i v,x=.ref p/\y=.int i/\oF K H p xs/\jJ xs i=some v/\Q v H
theorem eF:vK X (FK X.K):=by
 intro value slice pins s σ H x y v u Q I rx ry h hs
 obtain⟨p,xs,i,z,rfl,rfl,hq,he,q⟩:=h
 cases rx
 obtain⟨t,rfl⟩:=ry
 obtain⟨its,r,pl,hz⟩:=I.list hq
 obtain⟨j,h1,h2,h3,h4,h5⟩:=rY he
 obtain⟨w,ew,rw'⟩:=r.get h2
 have hl:=r.length
 have hn:=dI
 have fin:EP X pins σ Q w s:=⟨z,H,I,rw',q⟩
 by_cases h0:0<=i
 ·have hj:i.toNat=j:=by
   rw[seqIndex_of h0 h5] at h1
   exact cA h1
  exact item_listR pl.isList h0 (by omega) (by rw[hj];simpa using ew) fin hs
 ·have hj:(i+(its.toArray.size:Int)).toNat=j:=by
   rw[seqIndex_neg (by omega) h4] at h1
   rw[JA,<-hl]
   exact cA h1
  exact subscriptTail_builtinR (x:=w) pl.isList.typeIs slot_list_getitem.lookup
   (wpAny_getItem_list_neg (Q:=λr s'=>r=w/\EP X pins σ Q r s') pl.isList (by omega) (by rw[JA]<;>omega) (by omega) (by rw[hj];simpa using ew) ⟨rfl,fin⟩) hs
theorem CG:vK X (qJ X.K):=by
 intro value slice pins s σ H x y v u Q I rx ry h hs
 obtain⟨p,xs,i,z,rfl,rfl,hq,he,q⟩:=h
 cases rx
 obtain⟨t,rfl⟩:=ry
 obtain⟨its,r,pl,hz⟩:=I.tuple hq
 obtain⟨j,h1,h2,h3,h4,h5⟩:=rY he
 obtain⟨w,ew,rw'⟩:=r.get h2
 have hl:=r.length
 have hn:=dI
 have fin:EP X pins σ Q w s:=⟨z,H,I,rw',q⟩
 exact subscriptTail_builtinR (x:=w) pl.typeIs slot_tuple_getitem.lookup
  (getItem_tuple (j:=j) (Q:=λr s'=>r=w/\EP X pins σ Q r s') pl (by omega) (by omega) (by rw[JA,<-hl];exact h1) (by simpa using ew) ⟨rfl,fin⟩) hs
theorem l5 (its:List Value) (n j:Nat) (u:Value):Obj.mapSeq (·.setIfInBounds j u) {cls:=.type "list",data:=.seq its.toArray n}={cls:=.type "list",data:=.seq (its.set j u).toArray n}:=by
 simp[Obj.mapSeq]
theorem wE.lst {pins:List (Addr×Obj)} {σ:St} {H:Hp} {s:Shared} {p:Addr} {xs:List V} (I:wE X pins σ H s) (h:H p=some (.lst xs)):
  ∃(its:List Value) (n:Nat),BE xs its/\s.heap.get? p=some {cls:=.type "list",data:=.seq its.toArray n}/\xs.length<=sizeLine:=by
 obtain⟨z,its,n,r,e⟩:=I.hok p _ h
 exact⟨its,n,r,e,z⟩
theorem wE.lstUpd {pins:List (Addr×Obj)} {σ:St} {H:Hp} {s:Shared} {p:Addr} {xs ys:List V} {its its':List Value} {n n':Nat} {f:Obj->Obj} (I:wE X pins σ H s) (h:H p=some (.lst xs))
  (ho:s.heap.get? p=some {cls:=.type "list",data:=.seq its.toArray n}) (hf:f {cls:=.type "list",data:=.seq its.toArray n}={cls:=.type "list",data:=.seq its'.toArray n'}) (r:BE ys its') (hz:ys.length<=sizeLine) (t:Nat):
  wE X pins σ (upd H p (.lst ys)) {s with heap:=s.heap.update p f,toks:=t}:=by
 have e:(s.heap.update p f).get? p=some {cls:=.type "list",data:=.seq its'.toArray n'}:=by
  rw[nC f ho (by rw[hf]<;>rfl),hf]
 refine I.write (x:=p) (e:=p) (by rw[h];trivial) (.inl rfl) (λb u hb q=>(JB _ _ (Ne.symm hb)).trans q) ⟨_,e⟩ ?_
 exact⟨hz,its',n',r,e⟩
noncomputable def rSetL:V->V->V->Hp->(Hp->Prop)->Prop:=λo i v H Q=>∃p xs k j,o=.ref p/\i=.int k/\H p=some (.lst xs)/\OJ xs.length k=some j/\Q (upd H p (.lst (xs.set j v)))
theorem JH:YO X rSetL:=by
 intro pins s σ H o i v ov iv u Q I ro ri rv h
 obtain⟨p,xs,k,j,rfl,rfl,hp,hj,q⟩:=h
 cases ro
 obtain⟨t,rfl⟩:=ri
 obtain⟨its,n,r,ho,hz⟩:=I.lst hp
 obtain⟨h1,h2,h3,h4⟩:=qY hj
 have hl:=r.length
 have hn:=dI
 have I':wE X pins σ (upd H p (.lst (xs.set j v))) {s with heap:=s.heap.update p (Obj.mapSeq (·.setIfInBounds j u))}:=
  I.lstUpd hp ho (l5 its n j u) (r.set rv j) (by rw[BA];exact hz) s.toks
 by_cases h0:0<=k
 ·have hk:k.toNat=j:=by
   rw[seqIndex_of h0 h4] at h1
   exact cA h1
  exact PySem.W.ki_setAt ho h0 (by omega) (by rw[JA,<-hl];exact h4) (by rw[hk];exact⟨_,I',q⟩)
 ·have hk:(k+(its.toArray.size:Int)).toNat=j:=by
   rw[seqIndex_neg (by omega) h3] at h1
   rw[JA,<-hl]
   exact cA h1
  exact PySem.W.ki_setBack ho (by omega) (by rw[JA,<-hl];exact h3) (by omega) (by rw[hk];exact⟨_,I',q⟩)
noncomputable def rSlL (K:PySem.W.Frag):V->Option Int->Option Int->Hp->VK->Prop:=λx lo hi H Q=>∃a xs,x=.ref a/\xE K H a xs/\∀p,H p=none->Q (.ref p) (upd H p (.lst (BS xs lo hi)))
noncomputable def YF:V->Bool
 |.non=>true
 |.bl _=>true
 |.int _=>true
 |.str _=>true
 |_=>false
noncomputable def kJ:V->V->Bool
 |.non,.non=>true
 |.bl a,.bl b=>a == b
 |.bl a,.int b=>(if a then 1 else 0) == b
 |.int a,.bl b=>a == (if b then 1 else 0)
 |.int a,.int b=>a == b
 |.str a,.str b=>a == b
 |_,_=>false
theorem sY {A:Around} {s:Shared} {y x:V} {u v:Value} (ry:FE y u) (rx:FE x v) (fy:YF y=true) (fx:YF x=true):SeqAt.EqAt A s u v (kJ y x):=by
 cases y with
 |non=>
  cases ry
  cases x with
  |non=>cases rx;exact SeqAt.EqAt.same _
  |bl b=>cases rx;exact SeqAt.EqAt.none_bool b
  |int b=>obtain⟨t,rfl⟩:=rx;exact SeqAt.EqAt.none_int b t
  |str b=>obtain⟨t,rfl⟩:=rx;exact SeqAt.EqAt.none_str b t
  |_=>exact absurd (show false=true from fx) oA
 |bl a=>
  cases ry
  cases x with
  |non=>cases rx;exact SeqAt.EqAt.bool_none a
  |bl b=>cases rx;exact SeqAt.EqAt.bool_bool a b
  |int b=>obtain⟨t,rfl⟩:=rx;exact SeqAt.EqAt.bool_int a b t
  |str b=>obtain⟨t,rfl⟩:=rx;exact SeqAt.EqAt.bool_str a b t
  |_=>exact absurd (show false=true from fx) oA
 |int a=>
  obtain⟨t',rfl⟩:=ry
  cases x with
  |non=>cases rx;exact SeqAt.EqAt.int_none a t'
  |bl b=>cases rx;exact SeqAt.EqAt.int_bool a t' b
  |int b=>obtain⟨t,rfl⟩:=rx;exact SeqAt.EqAt.int_int a t' b t
  |str b=>obtain⟨t,rfl⟩:=rx;exact SeqAt.EqAt.int_str a t' b t
  |_=>exact absurd (show false=true from fx) oA
 |str a=>
  obtain⟨t',rfl⟩:=ry
  cases x with
  |non=>cases rx;exact SeqAt.EqAt.str_none a t'
  |bl b=>cases rx;exact SeqAt.EqAt.str_bool a t' b
  |int b=>obtain⟨t,rfl⟩:=rx;exact SeqAt.EqAt.str_int a t' b t
  |str b=>obtain⟨t,rfl⟩:=rx;exact SeqAt.EqAt.str_str a t' b t
  |_=>exact absurd (show false=true from fx) oA
 |_=>exact absurd (show false=true from fy) oA
noncomputable def GK (x:V) (u:Value):Bool:=match u with
 |.none=>kJ .non x
 |.bool b=>kJ (.bl b) x
 |.int i _=>kJ (.int i) x
 |.str z _=>kJ (.str z) x
 |_=>false
theorem tY {x y:V} {u:Value} (r:FE y u) (f:YF y=true):GK x u=kJ y x:=by
 cases y with
 |non=>cases r;rfl
 |bl b=>cases r;rfl
 |int i=>obtain⟨t,rfl⟩:=r;rfl
 |str z=>obtain⟨t,rfl⟩:=r;rfl
 |_=>exact absurd (show false=true from f) oA
theorem CS {x:V}:∀{xs:List V} {us:List Value},BE xs us->xs.all YF=true->us.any (GK x)=xs.any λy=>kJ y x
 |_,_,.nil,_=>rfl
 |y::xs,u::us,.cons r t,f=>by
  rw[ZD,kB] at f
  rw[IC,IC,tY r f.1,CS t f.2]
theorem DS {A:Around} {s:Shared} {x:V} {v:Value} (rx:FE x v) (fx:YF x=true):∀{xs:List V} {us:List Value},BE xs us->xs.all YF=true->∀u∈us,SeqAt.EqAt A s u v (GK x u)
 |_,_,.nil,_=>λu hu=>by cases hu
 |y::xs,u::us,.cons r t,f=>λu' hu=>by
  rw[ZD,kB] at f
  rcases xA.mp hu with rfl|hu
  ·rw[tY r f.1];exact sY r rx f.1 fx
  ·exact DS rx fx t f.2 u' hu
noncomputable def aR (x:V) (xs:List V):Bool:=xs.any λy=>kJ y x
noncomputable def uY (K:PySem.W.Frag) (neg:Bool):R2:=λx y H Q=>∃p xs,y=.ref p/\(xE K H p xs\/oF K H p xs)/\YF x=true/\xs.all YF=true/\Q (.bl (if neg then !aR x xs else aR x xs)) H
theorem o5:fH X (compareOp .In) (uY X.K false):=by
 intro pins s σ H x y v u Q I rx ry h
 obtain⟨p,xs,rfl,hq,fx,fs,q⟩:=h
 cases ry
 rcases hq with hq|hq
 ·obtain⟨its,r,pl,hz⟩:=I.list hq
  refine SeqAt.in_listAt (GK x) pl.isList (λw hw=>DS rx fx r fs w (by simpa using hw)) ⟨.bl _,H,I,rfl,?_⟩
  rw[show its.toArray.any (GK x)=its.any (GK x) by simp,CS r fs]
  exact q
 ·obtain⟨its,r,pl,hz⟩:=I.tuple hq
  refine SeqAt.in_tupleAt (GK x) pl (λw hw=>DS rx fx r fs w (by simpa using hw)) ⟨.bl _,H,I,rfl,?_⟩
  rw[show its.toArray.any (GK x)=its.any (GK x) by simp,CS r fs]
  exact q
theorem nP:zG X (.type "list") (λxs H Q=>∃p ys,xs=[.ref p]/\(xE X.K H p ys\/oF X.K H p ys)/\∀l,H l=none->Q (.ref l) (upd H l (.lst ys))):=by
 intro pins s σ H xs us Q I r h
 obtain⟨p,ys,rfl,hq,q⟩:=h
 obtain⟨u,rfl,rx⟩:=QH r
 cases rx
 have fin:∀(its:List Value),BE ys its->ys.length<=sizeLine->∀(h':Heap) (c':Nat),(∀b o',s.heap.get? b=some o'->h'.get? b=some o')->
   h'.get? s.heap.objs.size=some {cls:=.type "list",dict:=none,data:=.seq its.toArray c',slots:= #[]}->EP X pins σ Q (.ref s.heap.objs.size) {s with heap:=h'}:=λits r' hz h' c' kp e=>
  ⟨.ref s.heap.objs.size,_,I.laid (t':=s.toks) kp (pA _) (show NE X.prog X.w _ h' _ (.lst ys) from ⟨hz,its,c',r',e⟩),rfl,q _ (I.hok.fresh (pA _))⟩
 rcases hq with hq|hq
 ·obtain⟨its,r',pl,hz⟩:=I.list hq
  have hlen:=r'.length
  obtain⟨o,ho,hc,n,hd⟩:=pl.isList
  exact call_list_seq p (.inl rfl) ho hc hd (λh' c' kp e=>fin its r' hz h' c' kp e) (by simp only[JA]<;>omega)
 ·obtain⟨its,r',pl,hz⟩:=I.tuple hq
  have hlen:=r'.length
  obtain⟨o,ho,hc,n,hd⟩:=pl
  exact call_list_seq p (.inr rfl) ho hc hd (λh' c' kp e=>fin its r' hz h' c' kp e) (by simp only[JA]<;>omega)
theorem K5:zG X (.type "tuple") (λxs H Q=>∃p ys,xs=[.ref p]/\((xE X.K H p ys/\∀l,H l=none->Q (.ref l) (upd H l (.tup ys)))\/(oF X.K H p ys/\Q (.ref p) H))):=by
 intro pins s σ H xs us Q I r h
 obtain⟨p,ys,rfl,h⟩:=h
 obtain⟨u,rfl,rx⟩:=QH r
 cases rx
 rcases h with ⟨hq,q⟩|⟨hq,q⟩
 ·obtain⟨its,r',pl,hz⟩:=I.list hq
  have hlen:=r'.length
  refine call_tuple_list pl.isList (λh' kp=>?_) (by simp only[JA]<;>omega)
  have I1:wE X pins σ H {s with heap:=h'}:=I.kept (t':=s.toks) kp
  have I2:wE X pins σ (upd H h'.objs.size (.tup ys)) {s with heap:=h'.push {cls:=.type "tuple",data:=.seq its.toArray}}:=
   I1.laid (t':=s.toks) (λb o e=>sA _ e) (pA _) (show NE X.prog X.w _ _ _ (.tup ys) from ⟨hz,its,r',IsTup.new _ _⟩)
  exact⟨.ref h'.objs.size,_,I2,rfl,q _ (I1.hok.fresh (pA _))⟩
 ·obtain⟨its,r',pl,hz⟩:=I.tuple hq
  exact call_tuple_same pl ⟨.ref p,H,I,rfl,q⟩
noncomputable def vY (K:PySem.W.Frag) (T:String) (x:V) (H:Hp):Prop:=match x with
 |.str _=>T="str"
 |.int _=>T="int"
 |.ref p=>(T="list"/\∃xs,xE K H p xs)\/(T="tuple"/\∃o,K.lookup p=some o/\o.cls=.type "tuple"/\o.dict=none)\/
  (T="dict"/\((∃kvs,H p=some (.dK kvs))\/∃kvs,H p=some (.dT kvs)))\/(T="set"/\∃S n,H p=some (.set S n))
 |_=>False
theorem BM {pins:List (Addr×Obj)} {σ:St} {H:Hp} {s:Shared} {T:String} {x:V} {v:Value} (I:wE X pins σ H s) (r:FE x v) (ty:vY X.K T x H):
  s.TypeIs v T/\∀a,v=.ref a->∃ob,s.heap.get? a=some ob/\ob.dict=none:=by
 cases x with
 |str z=>
  obtain⟨t,rfl⟩:=r
  cases (show T="str" from ty)
  exact⟨typeIs_str s z t,λ_ e=>nomatch e⟩
 |int i=>
  obtain⟨t,rfl⟩:=r
  cases (show T="int" from ty)
  exact⟨typeIs_int s i t,λ_ e=>nomatch e⟩
 |ref p=>
  cases r
  rcases ty with ⟨rfl,xs,hq⟩|⟨rfl,o,hk,hc,hd⟩|⟨rfl,hk⟩|⟨rfl,S,n,hk⟩
  ·obtain⟨its,_,pl,_⟩:=I.list hq
   refine⟨pl.isList.typeIs,λa e=>?_⟩
   cases e
   obtain⟨o,n,e,c,hd,_⟩:=pl
   exact⟨o,e,hd⟩
  ·refine⟨⟨o,I.kIn p o hk,hc⟩,λa e=>?_⟩
   cases e
   exact⟨o,I.kIn _ o hk,hd⟩
  ·have z:∃o,s.heap.get? p=some o/\o.ExactDict:=by
    rcases hk with ⟨kvs,hk⟩|⟨kvs,hk⟩
    ·obtain⟨_,_,_,_,o,_,_,e,ex,_⟩:=I.hok p _ hk
     exact⟨o,e,ex⟩
    ·obtain⟨_,_,_,_,o,_,_,e,ex,_⟩:=I.hok p _ hk
     exact⟨o,e,ex⟩
   obtain⟨o,e,ex⟩:=z
   refine⟨⟨o,e,ex.1⟩,λa e2=>?_⟩
   cases e2
   exact⟨o,e,ex.2.1⟩
  ·obtain⟨o,_,_,_,e,ex,_⟩:=I.hok p _ hk
   refine⟨⟨o,e,ex.1⟩,λa e2=>?_⟩
   cases e2
   exact⟨o,e,ex.2.1⟩
 |_=>exact False.elim ty
noncomputable def wY (K:PySem.W.Frag) (T:String) (r:V->List V->Hp->VK->Prop) (to:TE) (t:TA):TE:=λσ H Q=>to σ H λx H1=>vY K T x H1/\t σ H1 λxs H2=>r x xs H2 Q
variable {o e:Expr} {es:List Expr} {to:TE} {t:TA} {name:Str} {apos cpos:Pos} {T id:String} {r:V->List V->Hp->VK->Prop}
theorem PJ (pa:PlainAttrs T) (slot:Slot T name id) (hty:typeOf (.builtin id)=pure (.type "method_descriptor")) (hm:j5 X id r) (ho:PE X o to) (ha:PA X (e::es) t)
  (hbase:attributeBase o name X.env (eval o X.env)=eval o X.env:=by rfl)
  (hfew:((backTo cpos (starEach (e::es) X.env)).all (λx=> !x.1)&&(backToKw cpos (keywordEach [] X.env)).all (λx=>x.1.isSome)
   &&decide ((e::es).length+([]:List Keyword).length+(if ([]:List Keyword).isEmpty then 0 else 1) < 30))=true:=by rfl)
  (hline:(apos.endLine == cpos.line)=true:=by rfl) (hs:starEach (e::es) X.env=(false,eval e X.env)::starEach es X.env:=by rfl) (hplain:(backTo cpos (starEach es X.env)).any (·.1)=false:=by rfl):
  PE X (.Call (.Attribute o name apos) (e::es) [] cpos) (wY X.K T r to t):=by
 intro pins s σ H Q I h
 refine wpAny_Call_method_late hbase hfew hline rfl (mF (ho pins s σ H _ I h) λv s1 ⟨x,H1,I1,r1,ty,q1⟩=>?_)
 obtain⟨h1,h2⟩:=BM I1 r1 ty
 refine⟨T,id,pa,slot,hty,h1,h2,?_⟩
 have hA:=ha cpos pins s1 σ H1 _ I1 q1
 rw[hs] at hA ⊢
 refine Calls.callWith_builtin (by show (false || (backTo cpos (starEach es X.env)).any (·.1))=false;rw[hplain]<;>rfl) (FD ?_)
 exact mF hA λus s2 ⟨vs,H2,I2,r2,q2⟩=>hm pins s2 σ H2 x vs v us Q I2 r1 r2 q2
end
end L2
namespace L2
open PySem PySem.Spec PyProof.Rows
noncomputable def xY (X:Cx) (id:String) (r:V->List V->Hp->VK->Prop):Prop:=
 ∀(pins:List (Addr×Obj)) (s:Shared) (σ:St) (H:Hp) (x:V) (xs:List V) (v:Value) (us:List Value) (Q:VK),wE X pins σ H s->FE x v->BE xs us->r x xs H Q->
  wpAny (model X.prog X.w) X.A (call (.builtin id) (v::us)) (EP X pins σ Q) X.xe s
theorem BE.one:∀{x:V} {us:List Value},BE [x] us->∃u,us=[u]/\FE x u
 |_,_,.cons r .nil=>⟨_,rfl,r⟩
theorem BE.two:∀{x y:V} {us:List Value},BE [x,y] us->∃u v,us=[u,v]/\FE x u/\FE y v
 |_,_,_,.cons r (.cons q .nil)=>⟨_,_,rfl,r,q⟩
theorem BE.zero:∀{us:List Value},BE [] us->us=[]
 |_,.nil=>rfl
theorem BE.rep {xs:List V} {us:List Value} (h:BE xs us):∀k:Nat,BE (List.replicate k xs).flatten (List.replicate k us).flatten
 |0=>.nil
 |k+1=>by
  rw[bC,bC,NC,NC]
  exact BE.append h (BE.rep h k)
theorem yY (its:List Value):∀(k:Nat) (acc:List Value),
  List.foldl (λx1 x2=>x1++x2) acc.toArray (List.replicate k its.toArray)=(acc++(List.replicate k its).flatten).toArray
 |0,acc=>by simp
 |k+1,acc=>by
  have e:acc.toArray++its.toArray=(acc++its).toArray:=by simp
  have e2:(acc++its)++(List.replicate k its).flatten=acc++(List.replicate (k+1) its).flatten:=by
   rw[bC,NC,KA]
  rw[<-e2,<-yY its k (acc++its),<-e,bC,List.foldl_cons]
section
variable {X:Cx} {pins:List (Addr×Obj)} {σ:St} {H:Hp} {s:Shared} {l b:Addr} {xs ys zs:List V}
theorem wE.lset {its its':List Value} {n:Nat} {f:Array Value->Array Value} {t':Nat} (I:wE X pins σ H s) (hH:H l=some (.lst xs))
  (e:s.heap.get? l=some {cls:=.type "list",data:=.seq its.toArray n}) (hf:f its.toArray=its'.toArray) (hv:BE ys its') (hz:ys.length<=sizeLine):
  wE X pins σ (upd H l (.lst ys)) {s with heap:=s.heap.update l (Obj.mapSeq f),toks:=t'}:=by
 have q:=PySem.IsL.update e f
 rw[hf] at q
 refine I.write (x:=l) (e:=l) (by rw[hH];exact trivial) (.inl rfl) (λb' u hb hu=>(JB s.heap (Obj.mapSeq f) (Ne.symm hb)).trans hu) ⟨_,q⟩ ?_
 exact⟨hz,its',_,hv,q⟩
theorem wE.lnew {its:List Value} {t':Nat} (I:wE X pins σ H s) (hv:BE ys its) (hz:ys.length<=sizeLine):
  wE X pins σ (upd H s.heap.objs.size (.lst ys)) {s with heap:=s.heap.push {cls:=.type "list",data:=.seq its.toArray},toks:=t'}:=
 I.laid (λ_ _ q=>sA _ q) (pA _) ⟨hz,its,0,hv,OA _ rfl⟩
theorem wE.fresh (I:wE X pins σ H s):H s.heap.objs.size=none:=I.hok.fresh (pA _)
theorem wE.lstM (I:wE X pins σ H s) (hH:H l=some (.lst xs)):xs.length<=sizeLine/\∃(its:List Value) (n:Nat),BE xs its/\xs.length=its.length/\s.heap.get? l=some {cls:=.type "list",data:=.seq its.toArray n}:=by
 obtain⟨z,its,n,r,e⟩:=I.hok l _ hH
 exact⟨z,its,n,r,r.length,e⟩
theorem uI {n:Nat} (h:n<=sizeLine):Builtin.List.listTooLong n=false:=by
 unfold Builtin.List.listTooLong
 exact vA (by omega)
end
section
variable {X:Cx}
noncomputable def rAppend:V->List V->Hp->VK->Prop:=λx vs H Q=>∃l xs y,x=.ref l/\vs=[y]/\H l=some (.lst xs)/\xs.length < sizeLine/\Q .non (upd H l (.lst (xs++[y])))
theorem QJ:xY X "list.append" rAppend:=by
 intro pins s σ H x vs v us Q I rx rv h
 obtain⟨l,xs,y,rfl,rfl,hH,hz,q⟩:=h
 cases rx
 obtain⟨u,rfl,ru⟩:=rv.one
 obtain⟨z,its,n,r,hl,e⟩:=I.lstM hH
 refine call_meets F.slot_list_append ⟨_,e,rfl⟩ F.entry_list_append (F.args_list_append_2 _ _) (PySem.list_append l its.toArray n u (by rw[JA];omega)) ⟨e,?_⟩
 refine⟨.non,_,I.lset (its':=its++[u]) hH e (by simp) (r.append (.cons ru .nil)) ?_,rfl,q⟩
 rw[nA,List.length_singleton]
 omega
noncomputable def rExtend:V->List V->Hp->VK->Prop:=λx vs H Q=>∃l b xs zs,x=.ref l/\vs=[.ref b]/\H l=some (.lst xs)/\H b=some (.lst zs)/\xs.length+zs.length<=sizeLine/\Q .non (upd H l (.lst (xs++zs)))
theorem M5:xY X "list.extend" rExtend:=by
 intro pins s σ H x vs v us Q I rx rv h
 obtain⟨l,b,xs,zs,rfl,rfl,hH,hB,hz,q⟩:=h
 cases rx
 obtain⟨u,rfl,ru⟩:=rv.one
 cases ru
 obtain⟨z,its,n,r,hl,e⟩:=I.lstM hH
 obtain⟨z2,its2,n2,r2,hl2,e2⟩:=I.lstM hB
 have hsz:its.toArray.size+its2.toArray.size<=sizeLine:=by rw[JA,JA];omega
 have hlong:¬(!its.toArray.isEmpty&&Builtin.List.listTooLong (its.toArray.size+its2.toArray.size))=true:=by
  rw[uI hsz,Bool.and_false]
  exact oA
 refine call_meets F.slot_list_extend ⟨_,e,rfl⟩ F.entry_list_extend (F.args_list_extend_2 _ _)
  (AutoSeq1.list_extend_list_list_0 l its.toArray n b its2.toArray n2 hlong (by rw[JA];omega) (by omega)) ⟨e,e2,?_⟩
 refine⟨.non,_,I.lset (its':=its++its2) hH e (by simp) (r.append r2) ?_,rfl,q⟩
 rw[nA]
 omega
noncomputable def rCat:R2:=λx y H Q=>∃l b xs zs,x=.ref l/\y=.ref b/\H l=some (.lst xs)/\H b=some (.lst zs)/\xs.length+zs.length<=sizeLine/\∀p,H p=none->Q (.ref p) (upd H p (.lst (xs++zs)))
theorem ES:fH X (binaryOp .Add) rCat:=by
 intro pins s σ H x y v u Q I rx ry h
 obtain⟨l,b,xs,zs,rfl,rfl,hH,hB,hz,q⟩:=h
 cases rx
 cases ry
 obtain⟨z,its,n,r,hl,e⟩:=I.lstM hH
 obtain⟨z2,its2,n2,r2,hl2,e2⟩:=I.lstM hB
 refine PySem.P.add_list e e2 ?_ (by rw[JA,JA];omega)
 have ea:its.toArray++its2.toArray=(its++its2).toArray:=by simp
 rw[ea]
 exact⟨.ref _,_,I.lnew (t':=s.toks) (r.append r2) (by rw[nA];omega),rfl,q _ I.fresh⟩
noncomputable def rRep:R2:=λx y H Q=>∃l k xs,x=.ref l/\y=.int k/\H l=some (.lst xs)/\ -(2 ^ 63)<=k/\k < 2 ^ 63/\xs.length * k.toNat<=sizeLine/\
 ∀p,H p=none->Q (.ref p) (upd H p (.lst (List.replicate k.toNat xs).flatten))
theorem N5 {α:Type} (xs:List α) (k:Nat):(List.replicate k xs).flatten.length=k * xs.length:=by
 induction k with
 |zero=>simp
 |succ k ih=>rw[bC,NC,nA,ih,Nat.succ_mul,Nat.add_comm]
theorem AY:fH X (binaryOp .Mult) rRep:=by
 intro pins s σ H x y v u Q I rx ry h
 obtain⟨l,k,xs,rfl,rfl,hH,h1,h2,hz,q⟩:=h
 cases rx
 obtain⟨t,rfl⟩:=ry
 obtain⟨z,its,n,r,hl,e⟩:=I.lstM hH
 have hlen:its.toArray.size * k.toNat<=sizeLine:=by rw[JA,<-hl];exact hz
 have hcap:¬its.toArray.size * k.toNat > (2 ^ 63 - 1) / 8:=by
  have:(sizeLine:Nat)<=(2 ^ 63 - 1) / 8:=by decide
  omega
 have hfit:¬(!Builtin.List.listFitsIndex k)=true:=by
  rw[fitsIndex_both h1 h2]
  exact oA
 have hlong:¬Builtin.List.listTooLong (its.toArray.size * k.toNat)=true:=by
  rw[uI hlen]
  exact oA
 have hnew:List.foldl (λx1 x2=>x1++x2) #[] (List.replicate (if its.toArray.isEmpty=true then 0 else k.toNat) its.toArray)=(List.replicate k.toNat its).flatten.toArray:=by
  have f0:∀m:Nat,List.foldl (λx1 x2=>x1++x2) #[] (List.replicate m its.toArray)=(List.replicate m its).flatten.toArray:=λm=>by
   have:=yY its m []
   rw[gD] at this
   exact this
  rw[f0]
  cases its with
  |nil=>simp
  |cons a r'=>rw[fA (by simp)]
 refine wpAny_binaryOp_repeat_ref (T:="list") (U:="int") (by decide) ⟨_,e,rfl⟩ (λs'=>typeIs_int s' k t) noFill_list_mul F.fills_int_mul F.slot_int_rmul repeat_list F.slot_int_index.lookup
  (call_meets F.slot_int_rmul (typeIs_int s k t) F.entry_int_rmul (F.args_int_rmul_2 _ _) (int___rmul___int_list k t l its.toArray n)
   ⟨e,rfl,⟨_,e,rfl⟩,call_meets F.slot_list_mul ⟨_,e,rfl⟩ F.entry_list_mul (F.args_list_mul_2 _ _) (AutoListH.list___mul___list_int_3 l its.toArray n k t hfit hcap hlong) ⟨e,?_⟩⟩)
 rw[hnew]
 exact⟨.ref _,_,I.lnew (t':=s.toks) (r.rep k.toNat) (by rw[N5,Nat.mul_comm];exact hz),rfl,q _ I.fresh⟩
end
section
variable {prog:Program} {w:World} {A:Around} {E:Value->Shared->Prop} {s:Shared}
end
section
variable {X:Cx}
end
end L2
namespace L2
open PySem PySem.Spec PyProof.Rows
section
variable {κ:Type} [DecidableEq κ]
noncomputable def HF (kvs:List (κ×V)) (k:κ):Option V:=(kvs.find? λkv=>decide (kv.1=k)).map (·.2)
noncomputable def nG (kvs:List (κ×V)) (k:κ) (v:V):List (κ×V):=
 if (kvs.any λkv=>decide (kv.1=k))=true then kvs.map (λkv=>if kv.1=k then (kv.1,v) else kv) else kvs++[(k,v)]
noncomputable def kL (kvs:List (κ×V)) (k:κ):List (κ×V):=kvs.filter λkv=>decide (kv.1≠k)
theorem FS {p:κ×V} {r:List (κ×V)} {k:κ} (e:p.1=k):HF (p::r) k=some p.2:=by simp[HF,XB,e]
theorem bR {p:κ×V} {r:List (κ×V)} {k:κ} (e:¬p.1=k):HF (p::r) k=HF r k:=by simp[HF,XB,e]
theorem GS (k:κ):∀kvs:List (κ×V),(kvs.any λkv=>decide (kv.1=k))=(HF kvs k).isSome
 |[]=>rfl
 |p::r=>by
  rw[IC]
  by_cases e:p.1=k
  ·simp only[FS e,AA e,Bool.true_or,Option.isSome_some]
  ·rw[bR e,vA e,Bool.false_or];exact GS k r
theorem HS (kvs:List (κ×V)) (k:κ) (v:V):(nG kvs k v).length<=kvs.length+1:=by
 unfold nG
 split
 ·rw[lA];omega
 ·rw[nA,WA,List.length_nil];omega
theorem IG.isSome_eq {o:Option V} {u:Option Value} (r:IG o u):o.isSome=u.isSome:=by
 cases o with
 |none=>cases u with
  |none=>rfl
  |some _=>exact (show False from r).elim
 |some _=>cases u with
  |none=>exact (show False from r).elim
  |some _=>rfl
theorem IG.getD {o:Option V} {u:Option Value} {d:V} {d':Value} (r:IG o u) (rd:FE d d'):FE (o.getD d) (u.getD d'):=by
 cases o with
 |none=>cases u with
  |none=>exact rd
  |some _=>exact (show False from r).elim
 |some _=>cases u with
  |none=>exact (show False from r).elim
  |some _=>exact r
theorem KV.any {kvs:List (κ×V)} {vs:List (κ×Value)} (r:KV kvs vs) (k:κ):(kvs.any λkv=>decide (kv.1=k))=vs.any λkv=>decide (kv.1=k):=by
 unfold KV at r
 induction r with
 |nil=>rfl
 |cons h t ih=>rw[IC,IC,ih,h.1]
theorem KV.repl {kvs:List (κ×V)} {vs:List (κ×Value)} (r:KV kvs vs) (k:κ) {y:V} {u:Value} (ry:FE y u):
  KV (kvs.map λkv=>if kv.1=k then (kv.1,y) else kv) (vs.map λkv=>if kv.1=k then (kv.1,u) else kv):=by
 unfold KV at r ⊢
 induction r with
 |nil=>exact .nil
 |@cons p q ps qs h t ih=>
  rw[CA,CA]
  refine .cons ?_ ih
  obtain⟨h1,h2⟩:=h
  by_cases e:p.1=k
  ·rw[iA e,iA (h1.symm.trans e)];exact⟨h1,ry⟩
  ·rw[fA e,fA (λz=>e (h1.trans z))];exact⟨h1,h2⟩
theorem KV.put {kvs:List (κ×V)} {vs:List (κ×Value)} (r:KV kvs vs) (k:κ) {y:V} {u:Value} (ry:FE y u):KV (nG kvs k y) (stored vs k u):=by
 unfold nG stored
 rw[r.any k]
 by_cases e:(vs.any λkv=>decide (kv.1=k))=true
 ·rw[iA e,iA e];exact r.repl k ry
 ·rw[fA e,fA e];exact Paired.snoc r ⟨rfl,ry⟩
theorem KV.drop {kvs:List (κ×V)} {vs:List (κ×Value)} (r:KV kvs vs) (k:κ):KV (kL kvs k) (without vs k):=by
 unfold KV at r ⊢
 unfold kL without
 induction r with
 |nil=>exact .nil
 |@cons p q ps qs h t ih=>
  obtain⟨h1,h2⟩:=h
  rw[gC,gC]
  by_cases e:p.1=k
  ·have a:¬decide (p.1≠k)=true:=by simp[e]
   have b:¬decide (q.1≠k)=true:=by simp[h1.symm.trans e]
   rw[fA a,fA b];exact ih
  ·have e':¬q.1=k:=λz=>e (h1.trans z)
   have a:decide (p.1≠k)=true:=by simp[e]
   have b:decide (q.1≠k)=true:=by simp[e']
   rw[iA a,iA b];exact .cons ⟨h1,h2⟩ ih
theorem KV.length {kvs:List (κ×V)} {vs:List (κ×Value)} (r:KV kvs vs):kvs.length=vs.length:=Paired.length r
end
theorem lL {P:Program} {w:World} {k:Key} {u:Value} (r:FE (kV k) u):(cF P w).is k u=true:=by
 cases k with
 |inl i=>obtain⟨t,e⟩:=(show ∃t,u=Value.int i t from r);subst e;exact P3 P w i t
 |inr x=>obtain⟨t,e⟩:=(show ∃t,u=Value.str x t from r);subst e;exact Q3 P w x t
theorem BY {P:Program} {w:World}:∀{ks:List Key} {us:List Value},BE (ks.map kV) us->ItemsAre (cF P w) ks us
 |[],_,r=>by rw[dC] at r;cases r;exact .nil
 |k::ks,_,r=>by
  rw[CA] at r
  cases r with
  |cons h t=>exact .cons (lL h) (BY t)
noncomputable abbrev KT (H:Hp):List (List Key×V)->List (List Key×Addr×Value)->Prop:=Paired λp q=>p.1=q.1/\H q.2.1=some (.tup (p.1.map kV))/\FE p.2 q.2.2
theorem KT.val {H:Hp} {kvs:List (List Key×V)} {xs:List (List Key×Addr×Value)} (r:KT H kvs xs) (k:List Key):IG (HF kvs k) ((atKey xs k).map (·.2)):=by
 induction r with
 |nil=>exact True.intro
 |@cons p q ps qs h t ih=>
  obtain⟨h1,_,h2⟩:=h
  by_cases e:p.1=k
  ·have e':q.1=k:=h1.symm.trans e
   have b:atKey (q::qs) k=some q.2:=by simp[atKey,XB,e']
   rw[FS e,b];exact h2
  ·have e':¬q.1=k:=λz=>e (h1.trans z)
   have b:atKey (q::qs) k=atKey qs k:=by simp[atKey,XB,e']
   rw[bR e,b];exact ih
theorem KT.repl {H:Hp} {kvs:List (List Key×V)} {xs:List (List Key×Addr×Value)} (r:KT H kvs xs) (k:List Key) {y:V} {u:Value} (ry:FE y u):
  KT H (kvs.map λkv=>if kv.1=k then (kv.1,y) else kv) (xs.map (putAt k u)):=by
 induction r with
 |nil=>exact .nil
 |@cons p q ps qs h t ih=>
  rw[CA,CA]
  refine .cons ?_ ih
  obtain⟨h1,h2,h3⟩:=h
  unfold putAt
  by_cases e:p.1=k
  ·rw[iA e,iA (h1.symm.trans e)];exact⟨h1,h2,ry⟩
  ·rw[fA e,fA (λz=>e (h1.trans z))];exact⟨h1,h2,h3⟩
theorem KT.put {H:Hp} {kvs:List (List Key×V)} {xs:List (List Key×Addr×Value)} (r:KT H kvs xs) (k:List Key) {b:Addr} {y:V} {u:Value} (hb:H b=some (.tup (k.map kV))) (ry:FE y u):
  KT H (nG kvs k y) (storedH xs k b u):=by
 have e:(kvs.any λkv=>decide (kv.1=k))=(atKey xs k).isSome:=by
  rw[GS,(r.val k).isSome_eq,Option.isSome_map]
 unfold nG storedH
 rw[e]
 by_cases q:(atKey xs k).isSome=true
 ·rw[iA q,iA q];exact r.repl k ry
 ·rw[fA q,fA q];exact Paired.snoc r ⟨rfl,hb,ry⟩
theorem KT.keeps {H H':Hp} {kvs:List (List Key×V)} {xs:List (List Key×Addr×Value)} (r:KT H kvs xs) (ht:∀b ys,H b=some (.tup ys)->H' b=some (.tup ys)):KT H' kvs xs:=
 Paired.mapP r λ_ _ z=>⟨z.1,ht _ _ z.2.1,z.2.2⟩
section
variable {P:Program} {w:World} {H:Hp} {h:Heap} {a:Addr}
theorem mL {u:HO} (ok:rG P w H h) (e:Rd H a u):NE P w H h a u:=e.ok ok
theorem nL {kvs:List (Key×V)} (ok:rG P w H h) (e:Rd H a (.dK kvs)):kvs.length<=sizeLine/\(a == sysModules)=false/\∃vs,KV kvs vs/\h.DictOf (cF P w) a vs:=
 show NE P w H h a (.dK kvs) from mL ok e
theorem oP {kvs:List (Key×V)} (ok:rG P w H h) (e:H a=some (.dK kvs)):kvs.length<=sizeLine/\(a == sysModules)=false/\∃vs,KV kvs vs/\h.DictOf (cF P w) a vs:=nL ok (.inl e)
theorem cR {ks:List Key} (ok:rG P w H h) (e:H a=some (.tup (ks.map kV))):(tupleKind (cF P w)).is h ks a:=by
 obtain⟨_,its,r,o,h1,h2,n,h3⟩:=(show NE P w H h a (.tup (ks.map kV)) from ok a _ e)
 exact⟨o,its.toArray,n,h1,h2,h3,by simpa using BY r⟩
theorem IS {kvs:List (List Key×V)} (ok:rG P w H h) (e:Rd H a (.dT kvs)):kvs.length<=sizeLine/\(a == sysModules)=false/\
  ∃xs,KT H kvs xs/\h.DictOfH (tupleKind (cF P w)) a xs:=by
 obtain⟨z,y,xs,r,o,es,ep,h1,h2,h3,h4,h5⟩:=(show NE P w H h a (.dT kvs) from mL ok e)
 refine⟨z,y,xs,r,o,es,ep,h1,h2,h3,h4,λx hx=>?_,h5⟩
 have all:∀{l:List (List Key×V)} {m:List (List Key×Addr×Value)},KT H l m->∀x∈m,(tupleKind (cF P w)).is h x.1 x.2.1:=by
  intro l m q
  induction q with
  |nil=>intro x hx;exact nomatch hx
  |@cons p q ps qs hq t ih=>
   intro x hx
   rcases xA.mp hx with e|hx
   ·subst e
    exact cR ok (by rw[<-hq.1];exact hq.2.1)
   ·exact ih x hx
 exact all r x hx
theorem lO {kvs:List (List Key×V)} (ok:rG P w H h) (e:H a=some (.dT kvs)):kvs.length<=sizeLine/\(a == sysModules)=false/\
 ∃xs,KT H kvs xs/\h.DictOfH (tupleKind (cF P w)) a xs:=IS ok (.inl e)
end
noncomputable def HK (H:Hp) (a:Addr) (y:V) (r:Option V):Prop:=
 (∃kvs k,Rd H a (.dK kvs)/\y=kV k/\r=HF kvs k)\/∃kvs k b,Rd H a (.dT kvs)/\y=.ref b/\H b=some (.tup (k.map kV))/\r=HF kvs k
noncomputable def rJ (H:Hp) (a:Addr) (y v:V) (H':Hp):Prop:=
 (∃kvs k,H a=some (.dK kvs)/\y=kV k/\kvs.length < sizeLine/\H'=upd H a (.dK (nG kvs k v)))\/
 ∃kvs k b,H a=some (.dT kvs)/\y=.ref b/\H b=some (.tup (k.map kV))/\kvs.length < sizeLine/\H'=upd H a (.dT (nG kvs k v))
theorem HK.k {H:Hp} {a:Addr} {kvs:List (Key×V)} {k:Key} (e:H a=some (.dK kvs)):HK H a (kV k) (HF kvs k):=.inl ⟨kvs,k,.inl e,rfl,rfl⟩
theorem HK.t {H:Hp} {a b:Addr} {kvs:List (List Key×V)} {k:List Key} (e:H a=some (.dT kvs)) (eb:H b=some (.tup (k.map kV))):HK H a (.ref b) (HF kvs k):=.inr ⟨kvs,k,b,.inl e,rfl,eb,rfl⟩
theorem rJ.k {H:Hp} {a:Addr} {kvs:List (Key×V)} {k:Key} {v:V} (e:H a=some (.dK kvs)) (hl:kvs.length < sizeLine):rJ H a (kV k) v (upd H a (.dK (nG kvs k v))):=.inl ⟨kvs,k,e,rfl,hl,rfl⟩
theorem rJ.t {H:Hp} {a b:Addr} {kvs:List (List Key×V)} {k:List Key} {v:V} (e:H a=some (.dT kvs)) (eb:H b=some (.tup (k.map kV))) (hl:kvs.length < sizeLine):
 rJ H a (.ref b) v (upd H a (.dT (nG kvs k v))):=.inr ⟨kvs,k,b,e,rfl,eb,hl,rfl⟩
section
variable {X:Cx} {pins:List (Addr×Obj)} {σ:St} {H:Hp} {s:Shared} {a:Addr} {y v:V} {u r:Value} {o:Option V} {A:Around} {E:Value->Shared->Prop}
theorem wE.big (I:wE X pins σ H s):sysModules < s.heap.objs.size:=by
 have h:mainGlobals < s.heap.objs.size:=(I.mod.glob.keeps I.bk).lt
 exact Nat.lt_trans (by decide) h
theorem dR {h':Heap} {t':Nat} {ob:HO} (I:wE X pins σ H s) (mu:OO (H a)) (hs:Heap.SameBut a s.heap h') (he:∃q,h'.get? a=some q) (new:NE X.prog X.w (upd H a ob) h' a ob):
  wE X pins σ (upd H a ob) {s with heap:=h',toks:=t'}:=
 I.write (x:=a) (e:=a) mu (.inl rfl) (λb q hb z=>(hs.2 b hb).trans z) he new
theorem CM {P:Program} {w:World} {H':Hp} {h':Heap} {kvs:List (Key×V)} {vs:List (Key×Value)} (z:kvs.length<=sizeLine) (hd:(a == sysModules)=false) (rel:KV kvs vs) (dd:h'.DictOf (cF P w) a vs):
 NE P w H' h' a (.dK kvs):=⟨z,hd,vs,rel,dd⟩
theorem O5 {H':Hp} {Q:Unit->Shared->Prop} (hu:A.units+1 < cLine) (I:wE X pins σ H s) (g:rJ H a y v H') (ry:FE y u) (rv:FE v r) (h:∀s',wE X pins σ H' s'->Q () s'):
  wpAny (model X.prog X.w) A (setItem (.ref a) u r) Q E s:=by
 rcases g with ⟨kvs,k,e,ey,l,eH⟩|⟨kvs,k,b,e,ey,eb,l,eH⟩
 ·subst ey eH
  obtain⟨z,hd,vs,rel,dd⟩:=oP I.hok e
  have hz:vs.length<=sizeLine:=by rw[<-rel.length];exact z
  have hl:(nG kvs k v).length<=sizeLine:=by have:=HS kvs k v;omega
  refine wpAny_setItem_pairs (hsz:=hz) (lL ry) dd λh' dd' hs=>h _ ?_
  have he:∃q,h'.get? a=some q:=let ⟨q,_,_,hq,_⟩:=dd';⟨q,hq⟩
  exact dR I (by rw[e];exact True.intro) hs he (CM hl hd (rel.put k rv) dd')
 ·subst ey eH
  cases (show u=Value.ref b from ry)
  obtain⟨z,hd,xs,rel,dd⟩:=lO I.hok e
  have hz:xs.length<=sizeLine:=by rw[<-Paired.length rel];exact z
  have hl:(nG kvs k v).length<=sizeLine:=by have:=HS kvs k v;omega
  refine wpAny_setItem_heap (hsz:=hz) (tupleKind_room_in1 hu) (cR I.hok eb) dd λh' dd' hs=>h _ ?_
  obtain⟨q,es,ep,hq,h2,h3,h4,_,h5⟩:=dd'
  refine dR I (by rw[e];exact True.intro) hs ⟨q,hq⟩ ⟨hl,hd,_,(rel.put k eb rv).keeps λc ys ec=>?_,q,es,ep,hq,h2,h3,h4,h5⟩
  rw[AE (qG ec e (λz=>nomatch z))]
  exact ec
end
section
variable {X:Cx} {pins:List (Addr×Obj)} {σ:St} {H:Hp} {s:Shared} {a:Addr} {kvs:List (Key×V)} {k:Key} {u:Value} {A:Around} {E:Value->Shared->Prop}
end
noncomputable def pL (td ty tv:TE):TS:=λD σ H=>tv σ H λv H1=>td σ H1 λx H2=>ty σ H2 λy H3=>∃a H4,x=.ref a/\rJ H3 a y v H4/\D.nx σ H4
section
variable {X:Cx} {o i e value:Expr} {pos pos' tpos:Pos} {td ty tv:TE}
theorem P5 (hu:X.A.units+1 < cLine) (ho:PE X o td) (hi:PE X i ty) (hv:PE X value tv) (hs:swapsWith value (some (.Subscript o i pos')) pos.line X.env=pure false):
  PS X (.Assign [.Subscript o i pos'] value pos) (pL td ty tv):=by
 intro pins s σ H D I h
 refine wpAny_Assign_Subscript (mF (hv pins s σ H _ I h) λr s1 ⟨v,H1,I1,rv,q1⟩=>mF (ho pins s1 σ H1 _ I1 q1) λu s2 ⟨x,H2,I2,rx,q2⟩=>mF (hi pins s2 σ H2 _ I2 q2) λiv s3 ⟨y,H3,I3,ry,a,H4,ex,g,q3⟩=>?_) hs
 subst ex
 obtain rfl:u=Value.ref a:=rx
 exact O5 hu I3 g ry rv λs4 I4=>⟨σ,H4,I4,q3⟩
end
theorem CY {P:Program} {w:World} {H:Hp} (h:Heap) (hb:sysModules < h.objs.size):NE P w H (h.push {cls:=.type "dict",data:=.dict #[]}) h.objs.size (.dT []):=
 ⟨fC _,CC.mpr (Ne.symm (VA hb)),[],.nil,_, #[],0,OA _ rfl,⟨rfl,rfl,rfl⟩,rfl,rfl,lC⟩
noncomputable def tDNewT:TE:=λ_ H Q=>∀p,H p=none->Q (.ref p) (upd H p (.dT []))
section
variable {X:Cx} {pos:Pos}
theorem Q5:PE X (.Dict [] [] pos) tDNewT:=λpins s σ H Q I h=>
 wpAny_Dict_empty ⟨.ref s.heap.objs.size,_,I.laid (a:=s.heap.objs.size) (o:=.dT []) (t':=s.toks) (λ_ _ q=>sA _ q) (pA _) (CY s.heap I.big),rfl,h _ (I.hok.fresh (pA _))⟩
end
structure M2 (X:Cx) (o:Expr) (m:Str) (apos:Pos) (e f:Expr) (cpos:Pos):Prop where
 base:attributeBase o m X.env (eval o X.env)=eval o X.env
 few:((backTo cpos (starEach [e,f] X.env)).all (λx=> !x.1)&&(backToKw cpos (keywordEach [] X.env)).all (λx=>x.1.isSome)
  &&decide (([e,f]:List Expr).length+([]:List Keyword).length+(if ([]:List Keyword).isEmpty then 0 else 1) < 30))=true
 line:(apos.endLine == cpos.line)=true
 trees:backTo cpos (starEach [e,f] X.env)=[(false,eval e X.env),(false,eval f X.env)]
noncomputable def DY (H:Hp) (a:Addr):Prop:=(∃kvs,Rd H a (.dK kvs))\/∃kvs,Rd H a (.dT kvs)
theorem DM {X:Cx} {pins:List (Addr×Obj)} {σ:St} {H:Hp} {s:Shared} {a:Addr} (I:wE X pins σ H s) (d:DY H a):
  s.TypeIs (.ref a) "dict"/\(∀b,Value.ref a=.ref b->∃ob,s.heap.get? b=some ob/\ob.dict=none)/\(a == sysModules)=false:=by
 rcases d with ⟨kvs,e⟩|⟨kvs,e⟩
 ·obtain⟨_,hd,vs,_,dd⟩:=nL I.hok e
  refine⟨dd.typeIs,λb q=>?_,hd⟩
  cases q
  obtain⟨ob,_,_,h1,h2,_⟩:=dd
  exact⟨ob,h1,h2.2.1⟩
 ·obtain⟨_,hd,xs,_,dd⟩:=IS I.hok e
  refine⟨dd.typeIs,λb q=>?_,hd⟩
  cases q
  obtain⟨ob,_,_,h1,h2,_⟩:=dd
  exact⟨ob,h1,h2.2.1⟩
section
variable {X:Cx} {pins:List (Addr×Obj)} {σ:St} {H:Hp} {s:Shared} {a:Addr} {y d:V} {u r:Value} {o:Option V} {A:Around} {E:Value->Shared->Prop}
end
section
variable {X:Cx} {o e f:Expr} {apos cpos:Pos} {td ty tx:TE}
end
section
variable {X:Cx} {pins:List (Addr×Obj)} {σ:St} {H:Hp} {s:Shared} {a:Addr} {kvs:List (Key×V)} {A:Around} {E:Value->Shared->Prop}
end
section
variable {X:Cx} {pins:List (Addr×Obj)} {σ:St} {H:Hp} {s:Shared} {a:Addr} {y:V} {u:Value} {A:Around} {E:Value->Shared->Prop}
end
end L2
namespace Att
open PySem PySem.W PySem.Calls PyProof.Rows
theorem R5 {P:Params} {h:Heap}:∀(ns:List Int) (vs:List Value),WellAll P h vs (ns.map WData.int)->IntsAre vs ns:=by
 intro ns
 induction ns with
 |nil=>
  intro vs w
  rw[dC] at w
  cases w
  exact .nil
 |cons n ns ih=>
  intro vs w
  rw[CA] at w
  cases w with
  |cons a b=>
   cases a
   exact .cons _ _ (ih _ b)
theorem V5 {l:OpenLaw} {n:Nat} (hn:l.most=some n) {P:Params} {h:Heap} {args:List WData} {vals:List Value}
  (hpre:l.row.toRowW.claim.pre args=true) (hwl:WellAll P h vals args):
  ∃a vs ns,vals=[Value.ref a]/\args=[WData.list (ns.map WData.int)]/\h.get? a=some {cls:=.type "list",data:=.seq vs.toArray}/\IntsAre vs ns/\ns.length<=n:=by
 have hsh:WShape.hasAll [] args [.list .int]=true:=(pre_splitW hpre).1
 have hc:l.pre.holds [] {args:=args}=true:=(pre_splitW hpre).2
 obtain⟨d,r,rfl,h1,h2⟩:=hasAllW_cons hsh
 obtain rfl:=hasAllW_nil h2
 obtain⟨xs,rfl,h3⟩:=hasW_list h1
 obtain⟨ns,rfl⟩:=items_int h3
 have hlen:ns.length<=n:=by
  unfold OpenLaw.pre at hc
  have h4:(WTm.not (.lt (.lit (.int (n:Int))) (.len (.arg 0)))).holds [] {args:=[.list (ns.map .int)]}=true:=by
   have h4:=(holds_andW hc).1
   rw[hn] at h4
   exact h4
  have h5:=condW_of h4 (w_not (w_lt w_lit (w_len_list (w_arg rfl))))
  rw[lA] at h5
  refine Nat.le_of_not_lt λq=>?_
  have q':(n:Int) < ((ns.length:Nat):Int):=by omega
  first
   |(rw[AA q'] at h5;exact absurd h5 (by decide))
   |(simp at h5;omega)
 cases hwl with
 |cons w1 w2=>
  cases w2
  cases w1 with
  |list ho hall=>exact⟨_,_,ns,rfl,rfl,ho,R5 ns _ hall,hlen⟩
theorem X5 (l:OpenLaw) (args:List WData):l.row.toRowW.claim.post args (.bool true) args=true:=
 postW_of (r:=l.row.toRowW) (X:=(true == true))
  (show WShape.has [] (.bool true) .bool=true by first|rfl|decide|simp[WShape.has,WShape.arms,WShape.armsAll])
  (show (WTm.eq .res (.lit (.bool true))).value [] {args:=args,res:=some (.bool true),after:=args}=some (.bool (true == true)) from w_eq_bool (w_res rfl) w_lit) rfl
theorem Y5 {l:OpenLaw} {n:Nat} {q:Program} {loose:List Str} {XP:(Str->Option Value)->Heap->Prop} {YP:World->Heap->Prop} {d:DefRec}
  (hn:l.most=some n) (hdf:d.params.defaults=[])
  (call:∀(w:World) (s₀ s₁:Shared) (mg mb:Str->Option Value) (fa:Addr) (o:Obj) (pm cd doc:Value) (a:Addr) (vs:List Value) (ns:List Int),
   Ground q loose [] XP w s₀ mg mb s₁.heap->YP w s₁.heap->
   s₁.heap.get? fa=some o->o.data=.func (docDef d.name d.params d.body d.scope pm cd doc)->s₁.heap.CodeRec cd d.name->mg d.name=some (.ref fa)->
   s₁.heap.get? a=some {cls:=.type "list",data:=.seq vs.toArray}->IntsAre vs ns->ns.length<=n->s₁.gens= #[]->
   codeAny (model l.prog w) callerA (.call (.ref fa) ⟨[.ref a],[]⟩) (λr s'=>r=.ok (.ret (.bool true))/\OldK s₁.heap s'.heap/\s'.os=s₁.os/\AllBare s'.gens) s₁):
  WalkO q loose XP YP l.row.toRowW d [] (λf vs=>PySem.call f vs):=by
 intro w s₀ s₁ mg mb G Y fa o pm cd doc dV kV ho hd hcd hD hmg hg args vals as hpre hlay hrd hwl hlo
 obtain rfl:dV=.none:=Dflts.none hD hdf
 obtain rfl:kV=.none:=Dflts.noKw hD
 obtain⟨a,vs,ns,rfl,rfl,hobj,hints,hlen⟩:=V5 hn hpre hwl
 refine enter_call (iE (call w s₀ s₁ mg mb fa o pm cd doc a vs ns G Y ho (fd_plain hd) hcd hmg hobj hints hlen hg) λr s' hq=>?_)
 obtain⟨rfl,h2,h3,h4⟩:=hq
 exact⟨.inl ⟨.bool true,.bool true,[],rfl,λ_=>rfl,.bool true,X5 l _,λ_=>⟨List.Pairwise.nil,λ_ hm=>(nomatch hm)⟩⟩,h2,h3,h4⟩
section
variable {prog:Program} {w:World} {A:Around} {E:Value->Shared->Prop} {s:Shared} {K:Frag}
noncomputable def ledger (h:Heap) (L d:Addr):List (Addr×Obj):=(List.range h.objs.size).filterMap λa=>if a=L\/a=d then none else (h.get? a).map λo=>(a,o)
end
end Att
namespace L2
open PySem PySem.Spec PyProof.Rows
theorem EY:∀{vs:List Value} {ns:List Int},IntsAre vs ns->BE (ns.map V.int) vs
 |_,_,.nil=>.nil
 |_,_,.cons n t h=>.cons ⟨t,rfl⟩ (EY h)
noncomputable def EM (H:Hp):Prop:=∀b,H b=none\/∃o xs,H b=some (.frz o (.lst xs))
theorem Z5 {P:Program} {w:World} {K:PySem.W.Frag} {mg mb:Str->Option Value} {CX:CXT} {k:Nat} {fa a:Addr} {fd:FuncData} {x:Str} {sp:Sp} {s₁:Shared} {vs:List Value} {ns:List Int}
  (KX:K.In s₁.heap) (hns:s₁.heap.Ns mainGlobals mg) (hb:s₁.heap.Ns builtinsNs mb) (hbb:∀x:Str,x≠"__name__"->mb x=bootBuiltins x) (hlim:s₁.heap.NoLimit) (hg:s₁.gens= #[])
  (ha:s₁.heap.get? a=some {cls:=.type "list",data:=.seq vs.toArray}) (hi:IntsAre vs ns) (hl:ns.length<=sizeLine) (hr:CF k callerA)
  (F:∀base:Heap,K.In base->base.Ns mainGlobals mg->NG P w K mg base CX k fa fd [x] sp) (hbind:∀(s:Shared) (u:Value),BindsTo s fd ⟨[u],[]⟩ [(x,u)])
  (hsp:∀H:Hp,EM H->xE K H a (ns.map V.int)->sp [.ref a] H (λv _=>v=.bl true) λ_ _ _=>False)
  (hCX:∀H e s',CX [] H s₁ (λ_ _ _=>False) e s'->False):
  codeAny (model P w) callerA (.call (.ref fa) ⟨[.ref a],[]⟩) (λr s'=>r=.ok (.ret (.bool true))/\OldK s₁.heap s'.heap/\s'.os=s₁.os/\AllBare s'.gens) s₁:=by
 have rv:=EY hi
 have lenV:=hi.length
 have core:∀H:Hp,EM H->xE K H a (ns.map V.int)->rG P w H s₁.heap->(∀b,H b≠none->b=a)->(H a≠none->K.lookup a=none)->
   codeAny (model P w) callerA (.call (.ref fa) ⟨[.ref a],[]⟩) (λr s'=>r=.ok (.ret (.bool true))/\OldK s₁.heap s'.heap/\s'.os=s₁.os/\AllBare s'.gens) s₁:=by
  intro H hO hS hok hA hK
  have base_of:∀{b:Addr} {o:Obj},s₁.heap.get? b=some o->H b=none->(YH s₁.heap H).get? b=some o:=λe n=>V3 e n
  have noA:∀{b:Addr} {o:Obj} {es:Array DictEntry} {ep:Nat},s₁.heap.get? b=some o->o.data=.dict es ep->H b=none:=λ{b o es ep} e d=>by
   cases q:H b with
   |none=>rfl
   |some u=>
    have e':b=a:=hA b (by rw[q];simp)
    subst e'
    rw[ha] at e;cases e
    have d':Data.seq vs.toArray _=Data.dict es ep:=d
    cases d'
  have nsK:∀{b:Addr} {m:Str->Option Value},s₁.heap.Ns b m->(YH s₁.heap H).Ns b m:=λ{b m} ⟨o,es,ep,e,d,r⟩=>⟨o,es,ep,base_of e (noA e d),d,r⟩
  have hKb:K.In (YH s₁.heap H):=λb o e=>base_of (KX b o e) (by
   cases q:H b with
   |none=>rfl
   |some u=>
    have e':b=a:=hA b (by rw[q];simp)
    subst e'
    rw[hK (by rw[q];simp)] at e;cases e)
  have hM:Mod K mg (YH s₁.heap H):=⟨hKb,nsK hns,⟨mb,nsK hb,hbb⟩,let ⟨mc,h1,h2⟩:=hlim;⟨mc,nsK h1,h2⟩⟩
  have e0:UI P w K mg (YH s₁.heap H) callerA [] s₁ H:=⟨rfl,hM,λb o e=>X3 e,Nat.le_of_eq (U3 _ _),trivial,λb hb=>absurd (show b∈([]:List Addr) from hb) (by simp),hok,.of_eq hg⟩
  refine iE ((F _ hKb (nsK hns)).run callerA [] s₁ H ⟨[.ref a],[]⟩ [.ref a] [.ref a] _ _ hr e0 (hbind s₁ (.ref a)) (.cons rfl .nil) (hsp H hO hS)) λr s' h=>?_
  cases r with
  |error e=>exact (hCX H e s' h).elim
  |ok fl=>
   cases fl with
   |next=>exact False.elim h
   |brk=>exact False.elim h
   |cont=>exact False.elim h
   |ret u=>
    obtain⟨v,H',os,bare,un,hok',r',q⟩:=h
    have q':v=.bl true:=q
    subst q'
    obtain rfl:u=Value.bool true:=r'
    refine⟨rfl,OldK.of_keep λb o e=>?_,os,bare⟩
    cases q:H b with
    |none=>exact un.keep b o e q (by intro z;exact absurd (show b∈([]:List Addr) from z) (by simp)) (by simp)
    |some u=>
     rcases hO b with z|⟨ob,xs,z⟩
     ·rw[q] at z;cases z
     ·have z2:=un.frzs b ob _ z
      obtain⟨e1,_⟩:=hok b _ z
      obtain⟨e2,_⟩:=hok' b _ z2
      rw[e] at e1;cases e1
      exact e2
 cases hk:K.lookup a with
 |some o=>
  have e:=KX a o hk
  rw[ha] at e
  cases e
  refine core (λ_=>none) (λ_=>.inl rfl) (.inr ⟨_,vs.toArray,_,hk,rfl,rfl,rfl,by rw[JA,lenV];exact hl,by simpa using rv⟩) (λb u z=>by have z':(none:Option HO)=some u:=z;cases z') (λb z=>absurd rfl z) λz=>absurd rfl z
 |none=>
  refine core (λb=>if b=a then some (.frz {cls:=.type "list",data:=.seq vs.toArray} (.lst (ns.map V.int))) else none) (λb=>?_) (.inl (.inr ⟨{cls:=.type "list",data:=.seq vs.toArray},iA rfl⟩)) (λb u z=>?_) (λb z=>?_) λ_=>hk
  ·by_cases hb:b=a
   ·exact .inr ⟨_,_,iA hb⟩
   ·exact .inl (fA hb)
  ·by_cases hb:b=a
   ·have z':=(iA hb).symm.trans z
    cases z'
    subst hb
    exact⟨ha,by rw[lA];exact hl,vs,_,rv,ha⟩
   ·have z':=(fA hb).symm.trans z
    cases z'
  ·by_cases hb:b=a
   ·exact hb
   ·exact absurd (fA hb) z
end L2
namespace L2
open PySem PySem.Spec PyProof.Rows
theorem i6 {l:PySem.W.OpenLaw} {n k:Nat} {q:Program} {loose:List Str} {XP:(Str->Option Value)->Heap->Prop} {YP:World->Heap->Prop} {d:DefRec} {K:Params->PySem.W.Frag} {CX:World->CXT} {sp:World->Sp} {x:Str}
  (hn:l.most=some n) (hn2:n<=sizeLine) (hdf:d.params.defaults=[]) (hr:CF k callerA)
  (hY:∀(w:World) (h:Heap),YP w h->(K w.params).In h)
  (F:∀(w:World) (mg:Str->Option Value) (fa:Addr) (h:Heap),(K w.params).In h->h.Ns mainGlobals mg->mg d.name=some (.ref fa)->
   ∃fd:FuncData,(∀(s:Shared) (u:Value),BindsTo s fd ⟨[u],[]⟩ [(x,u)])/\
    ∀base:Heap,(K w.params).In base->base.Ns mainGlobals mg->NG l.prog w (K w.params) mg base (CX w) k fa fd [x] (sp w))
  (hsp:∀(w:World) (H:Hp) (a:Addr) (ns:List Int),ns.length<=n->EM H->xE (K w.params) H a (ns.map V.int)->sp w [.ref a] H (λv _=>v=.bl true) λ_ _ _=>False)
  (hCX:∀(w:World) (H:Hp) (s:Shared) (e:Value) (s':Shared),CX w [] H s (λ_ _ _=>False) e s'->False):
  PySem.W.WalkO q loose XP YP l.row.toRowW d [] (λf vs=>PySem.call f vs):=by
 refine Att.Y5 hn hdf λw s₀ s₁ mg mb fa o pm cd doc a vs ns G Y ho hd hcd hmg hobj hints hlen hg=>?_
 have KX:=hY w _ Y
 obtain⟨fd,hb,hF⟩:=F w mg fa _ KX G.T.g hmg
 exact Z5 KX G.T.g G.T.b G.T.builtins G.T.nolimit hg hobj hints (EB hlen hn2) hr hF hb (λH hO hS=>hsp w H a ns hlen hO hS) λH e s'=>hCX w H s₁ e s'
end L2
namespace L2
open PySem PySem.Spec PyProof.Rows
noncomputable def rE (s:Stmt) (j:Nat):Stmt:=match s with
 |.ClassDef _ _ _ body _ _ _ _ _ _ _=>body.getD j (.Pass ⟨0,0,0,0⟩)
 |_=>.Pass ⟨0,0,0,0⟩
noncomputable def qF (s:Stmt):Arguments:=match s with
 |.FunctionDef _ a _ _ _ _ _ _ _ _=>a
 |_=>{posonlyargs:=[],args:=[],vararg:=none,kwonlyargs:=[],kw_defaults:=[],kwarg:=none,defaults:=[]}
noncomputable def dF (s:Stmt):List Stmt:=match s with
 |.FunctionDef _ _ b _ _ _ _ _ _ _=>b
 |_=>[]
noncomputable def qE (s:Stmt):Scope:=match s with
 |.FunctionDef _ _ _ _ _ _ sc _ _ _=>sc
 |_=>{kind:=.function,names:=[],isGenerator:=false,isCoroutine:=false}
noncomputable abbrev FY:CXT:=λ_ _ _ _ _ _=>False
structure VI (K:PySem.W.Frag) (x qual:Str) (st:Stmt) (f:Addr) (fd:FuncData):Prop where
 ex:∃(oc:Value) (od:Option Addr) (kV doc pm:Value) (an:Option Addr) (cdv ct:Value) (osl:Array (Option Value)),
  fd=PySem.W.fnOf x qual (qF st) (dF st) (qE st) .none kV doc pm an cdv ct/\K.lookup f=some ⟨oc,od,.func fd,osl⟩/\PySem.W.codeIn K cdv qual=true
 kp:PySem.W.keepIn K (.ref f)=true
section
variable {P:Program} {w:World} {K:PySem.W.Frag} {mg:Str->Option Value} {base:Heap}
theorem VI.ok {x qual:Str} {st:Stmt} {f:Addr} {fd:FuncData} {N ps:List Str} {k:Nat} {sp:Sp} (F:VI K x qual st f fd) (S:tE N ps (qE st)) (len:∀vs H Q E,sp vs H Q E->vs.length=ps.length)
  (hbody:∀(cdv:Value) (A:Around) (outer:List Env) (s:Shared) (H:Hp) (vs:List V) (Q:VK) (E:XK),CF k (A.deeper (envOfC qual (qE st) s.heap.objs.size f cdv))->sp vs H Q E->
   ∃t,oI (gG FY P w K mg base N qual (qE st) f cdv A outer s H E).nox (dF st) t/\t {nx:=λ_ H'=>Q .non H',rt:=Q} (BG N vs) H):NG P w K mg base FY (k+1) f fd ps sp:=by
 obtain⟨oc,od,kV,doc,pm,an,cdv,ct,osl,rfl,lk,hcd⟩:=F.ex
 refine yS lk hcd S len λA outer s H vs Q E hr hsp=>?_
 obtain⟨t,h,q⟩:=hbody cdv A outer s H vs Q E hr hsp
 exact⟨t,h.nox,q⟩
theorem VI.binds {x qual:Str} {st:Stmt} {f:Addr} {fd:FuncData} {ps:List Str} (F:VI K x qual st f fd)
  (h:∀(kV doc pm:Value) (an:Option Addr) (cdv ct:Value) (us:List Value),us.length=ps.length->bindArgs (PySem.W.fnOf x qual (qF st) (dF st) (qE st) .none kV doc pm an cdv ct) ⟨us,[]⟩=pure (ps.zip us)):kG K fd ps []:=by
 obtain⟨oc,od,kV,doc,pm,an,cdv,ct,osl,rfl,lk,hcd⟩:=F.ex
 exact .all (h kV doc pm an cdv ct)
theorem JS {x qual:Str} {st:Stmt} {f:Addr} {oc:Value} {od an:Option Addr} {osl:Array (Option Value)} {kV doc pm cdv ct:Value} (l:K.lookup f=some ⟨oc,od,.func (PySem.W.fnOf x qual (qF st) (dF st) (qE st) .none kV doc pm an cdv ct),osl⟩)
 (c:PySem.W.codeIn K cdv qual=true) (k:PySem.W.keepIn K (.ref f)=true):VI K x qual st f (PySem.W.fnOf x qual (qF st) (dF st) (qE st) .none kV doc pm an cdv ct):=⟨⟨oc,od,kV,doc,pm,an,cdv,ct,osl,rfl,l,c⟩,k⟩
end
theorem KS {A:Around} {k:Nat} (hr:CF k A):A.units+1 < cLine:=Nat.lt_of_le_of_lt (Nat.add_le_add_left (by decide:1<=64) _) hr.units
section
variable {X:Cx}
end
theorem gF {A B:Prop} (h:B):if false=true then A else B:=by
 rw[fA oA]
 exact h
theorem oG {A B:Prop} (h:A):if true=true then A else B:=by
 rw[iA rfl]
 exact h
theorem fI {c A B:Prop} [Decidable c] (h1:c->A) (h2:¬c->B):if c then A else B:=by
 by_cases h:c
 ·rw[iA h]
  exact h1 h
 ·rw[fA h]
  exact h2 h
noncomputable def vE (H H':Hp):Prop:=∀b o,H b=some o->H' b=some o
theorem vE.trans {H H1 H2:Hp} (a:vE H H1) (b:vE H1 H2):vE H H2:=λc o h=>b c o (a c o h)
theorem vE.free {H H':Hp} (e:vE H H') {l:Addr} (h:H' l=Option.none):H l=Option.none:=by
 cases q:H l with
 |none=>rfl
 |some o=>
  rw[e l o q] at h
  cases h
theorem vE.seq {K:PySem.W.Frag} {H H':Hp} {a:Addr} {xs:List V} (e:vE H H') (h:xE K H a xs):xE K H' a xs:=by
 rcases h with (h|⟨o,h⟩)|h
 ·exact .inl (.inl (e _ _ h))
 ·exact .inl (.inr ⟨o,e _ _ h⟩)
 ·exact .inr h
section
variable {κ:Type} [DecidableEq κ]
end
end L2
set_option maxHeartbeats 4000000
namespace L2
open PySem PySem.Spec PyProof.Rows
section
variable {M:Model} {A:Around} {E:Value->Shared->Prop} {s:Shared}
noncomputable def gI (e:Addr) (h:Heap):Prop:=∃o vs,h.get? e=some o/\o.data=.fields vs/\vs[2]?=some .none
theorem RJ {B:Heap} {env:Env} {ol:List Env} {L e:Addr} {oe:Obj} {vs:Array Value} {hd0 a0:Value} {nx:Bool} {Q:Unit->Shared->Prop}
  (fr:A.frames=some (env::ol)) (ff:s.heap.FunFrames B (env::ol)) (ef:env.frame=some L) (ge:s.heap.get? e=some oe) (st:B.StaysIn s.heap) (ne:B.get? e=none) (dd:oe.data=.fields vs) (sz:1 < vs.size) (v0:vs[0]?=some a0) (v2:vs[2]?=some .none)
  (q:∀h',Heap.NotedW B (env::ol) e oe.cls a0 (rawInt L) s.heap h'->gI e h'->Q () {s with heap:=h'}):
  wpAny M A (do let a<-frameOf env;let pl<-entryPlaceOf L nx;let b<-EntryCells.newEntry hd0 a .none (rawInt L) .none pl;setField (.ref e) 1 b) Q E s:=by
 have notF:e∉(env::ol).filterMap (·.frame):=λm=>by
  obtain⟨_,o,go,nf⟩:=ff.mem m
  rw[ge] at go
  cases go
  exact nf vs dd
 refine gA (wpAny_frameOf_fun fr ff ef λk1 z1=>gA (wpAny_entryPlaceOf λpl zp=>?_))
 unfold EntryCells.newEntry newFields
 refine gA (SC ?_ (zp.sizeOk5 _ _ _ _ _))
 have g1:k1.get? e=some oe:=(z1.2.1 e notF).trans ge
 have st1:B.StaysIn k1:=λb o hb=>(z1.2.1 b λm=>by rw[(ff.mem m).1] at hb;cases hb).trans (st b o hb)
 generalize ho:({cls:=.type "traceback",dict:=none,data:=.fields ([hd0,.ref L,.none,rawInt L,.none]++(if pl.isEmpty then List.replicate 6 Value.none else pl)).toArray}:Obj)=nT
 have hdT:nT.data=.fields ([hd0,.ref L,.none,rawInt L,.none]++(if pl.isEmpty then List.replicate 6 Value.none else pl)).toArray:=by rw[<-ho]
 have hfreed:nT.isFreed=false:=LC hdT
 have g2:(k1.push nT).get? e=some oe:=sA nT g1
 have gT:(k1.push nT).get? k1.objs.size=some nT:=OA k1 hfreed
 refine wD g2 dd sz ?_
 have dis:k1.objs.size≠e:=Nat.ne_of_gt (HA g1)
 have d3:=HC dd (·.setIfInBounds 1 (Value.ref k1.objs.size))
 have g3:=nC (Obj.mapFields (·.setIfInBounds 1 (Value.ref k1.objs.size))) g2 (LC d3)
 have gT3:=(JB (k1.push nT) (Obj.mapFields (·.setIfInBounds 1 (Value.ref k1.objs.size))) (Ne.symm dis)).trans gT
 have kp:∀b o,b≠e->k1.get? b=some o->((k1.push nT).update e (Obj.mapFields (·.setIfInBounds 1 (Value.ref k1.objs.size)))).get? b=some o:=λb o n g=>by
  rw[JB _ _ (Ne.symm n)]
  exact sA _ g
 have rcd:∀b o,s.heap.get? b=some o->(∀vs,o.data≠.fields vs)->b≠e:=λb o g nf z=>by
  rw[z,ge] at g
  cases g
  exact nf vs dd
 have t3:([hd0,.ref L,.none,rawInt L,.none]++(if pl.isEmpty then List.replicate 6 Value.none else pl)).toArray[3]?=some (rawInt L):=by simp
 refine q _ ⟨λb o hb=>kp b o (λz=>by rw[z,ne] at hb;cases hb) (st1 b o hb),ff.of_keeps λb o g nf=>?_,⟨_,_,k1.objs.size,nT,_,g3,⟨Obj.cls_mapFields _ _,?_⟩,d3,?_,st1.fresh,dis,gT3,hdT,t3⟩,λb o g nf=>?_⟩ ⟨_,_,g3,d3,?_⟩
 ·obtain⟨sl,hs⟩:=z1.2.2 b o g
  exact⟨_,kp b _ (rcd b o g nf) hs,rfl⟩
 ·rw[xD (by decide)];exact v0
 ·simp[sz]
 ·obtain⟨sl,hs⟩:=z1.2.2 b o g
  exact⟨sl,kp b _ (rcd b o g nf) hs⟩
 ·rw[xD (by decide)];exact v2
theorem SJ {B:Heap} {l:List Env} {e:Addr} {cls a0 fl:Value} {Q:Unit->Shared->Prop} (st:B.StaysIn s.heap) (ff:s.heap.FunFrames B l) (tr:s.heap.TracedAtW B e cls a0 fl) (nc:gI e s.heap) (ne:B.get? e=none)
  (q:∀h',Heap.FlyingW B l e cls a0 h'->s.heap.UpToSlots h'->gI e h'->Q () {s with heap:=h'}):wpAny M A (setFlight (.ref e) none) Q E s:=by
 obtain⟨oe,vs,T,oT,ts,ge,hc,dd,v1,nT,dis,gT,dT,t3⟩:=tr
 have s3:3 < ts.size:=(UC.mp t3).1
 unfold setFlight
 refine gA (wpAny_field ge dd v1 ?_)
 rw[iA (show (Value.ref T != Value.none)=true by simp)]
 have oth:∀b,b≠T->(s.heap.update T (Obj.mapFields (·.setIfInBounds 3 ((none:Option Addr).elim Value.none λf=>rawInt f)))).get? b=s.heap.get? b:=λb n=>JB _ _ (Ne.symm n)
 have rcd:∀b o,s.heap.get? b=some o->(∀vs,o.data≠.fields vs)->b≠T:=λb o g nf z=>by
  rw[z,gT] at g
  cases g
  exact nf ts dT
 refine wD gT dT s3 (q _ ⟨λb o hb=>(oth b λz=>by rw[z,nT] at hb;cases hb).trans (st b o hb),ne,ff.of_keeps λb o g nf=>⟨o,(oth b (rcd b o g nf)).trans g,rfl⟩,?_⟩ (λb o g nf=>⟨o.slots,(oth b (rcd b o g nf)).trans g⟩) ?_)
 ·exact⟨oe,vs,T,_,_,(oth e (Ne.symm dis)).trans ge,hc,dd,v1,nT,dis,nC _ gT (LC (HC dT _)),HC dT _,by simp[s3]⟩
 ·obtain⟨o,vs',g,d,v⟩:=nc
  exact⟨o,vs',(oth e (Ne.symm dis)).trans g,d,v⟩
theorem FM {B:Heap} {env:Env} {ol:List Env} {L e:Addr} {cls a0:Value} {Q:Unit->Shared->Prop} (fr:A.frames=some (env::ol)) (ef:env.frame=some L) (fl:Heap.FlyingW B (env::ol) e cls a0 s.heap) (nc:gI e s.heap)
  (q:∀h',Heap.HeldW B (env::ol) e cls a0 L h'->s.heap.UpToSlots h'->gI e h'->Q () {s with heap:=h'}):wpAny M A (noteFrame (.ref e) env) Q E s:=by
 obtain⟨st,ne,ff,oe,vs,T,oT,ts,ge,⟨hc,v0⟩,dd,v1,nT,dis,gT,dT,t3⟩:=fl
 obtain⟨o',vs',g',d',v2⟩:=nc
 rw[ge] at g'
 cases g'
 rw[dd] at d'
 cases d'
 subst hc
 unfold noteFrame
 simp only[ef]
 refine gA (wpAny_field ge dd v1 ?_)
 rw[iA (show (Value.ref T != Value.none)=true by simp)]
 refine gA (wpAny_field gT dT t3 ?_)
 rw[fA (show ¬((Value.none == rawInt L)=true) by simp[rawInt])]
 refine gA (wD gT dT (UC.mp t3).1 ?_)
 have oth:∀b,b≠T->(s.heap.update T (Obj.mapFields (·.setIfInBounds 3 Value.none))).get? b=s.heap.get? b:=λb n=>JB _ _ (Ne.symm n)
 have rcd:∀b o,s.heap.get? b=some o->(∀vs,o.data≠.fields vs)->b≠T:=λb o g nf z=>by
  rw[z,gT] at g
  cases g
  exact nf ts dT
 refine RJ fr (ff.of_keeps λb o g nf=>⟨o,(oth b (rcd b o g nf)).trans g,rfl⟩) ef ((oth e (Ne.symm dis)).trans ge) (λb o hb=>(oth b λz=>by rw[z,nT] at hb;cases hb).trans (st b o hb)) ne dd (UC.mp v1).1 v0 v2 λh' ⟨x1,x2,x3,x4⟩ nc'=>?_
 exact q h' ⟨x1,ne,x2,x3⟩ (λb o g nf=>x4 b o ((oth b (rcd b o g nf)).trans g) nf) nc'
theorem IK {B:Heap} {env:Env} {ol:List Env} {L e:Addr} {cls a0:Value} {Q:Unit->Shared->Prop} (fr:A.frames=some (env::ol)) (ef:env.frame=some L) (fl:Heap.FlyingW B (env::ol) e cls a0 s.heap) (nc:gI e s.heap)
  (q:∀h',Heap.FlyingW B ol e cls a0 h'->s.heap.UpToSlots h'->gI e h'->Q () {s with heap:=h'}):wpAny M A (leaving env (.ref e)) Q E s:=by
 unfold leaving
 refine gA (FM fr ef fl nc λk ⟨h1,h2,h3,h4⟩ up nk=>?_)
 refine SJ (s:={s with heap:=k}) h1 h3 h4 nk h2 λk' ⟨f1,f2,⟨_,_,f3⟩,f4⟩ up' nk'=>?_
 exact q k' ⟨f1,f2,f3,f4⟩ (up.trans up') nk'
theorem vI {B h:Heap} {env:Env} {ol:List Env} {L e:Addr} {cls:Value} {args:List Value} {Q:Unit->Shared->Prop} (fr:A.frames=some (env::ol)) (ef:env.frame=some L) (st:B.StaysIn h) (ff:h.FunFrames B (env::ol)) (mk:Heap.MadeExcOf h s.heap e cls args)
  (q:∀h' t,Heap.FlyingW B ol e cls (.ref t) h'->s.heap.UpToSlots h'->gI e h'->Q () {s with heap:=h'}):wpAny M A (leaving env (.ref e)) Q E s:=by
 obtain⟨t,ge,_,_⟩:=mk.there
 have new:∀b,h.get? b=none->B.get? b=none:=λb hb=>by
  cases z:B.get? b with
  |none=>rfl
  |some o=>have:=st b o z;rw[hb] at this;cases this
 unfold leaving noteFrame
 simp only[ef]
 refine gA (gA (wpAny_field ge rfl (x:=.none) rfl ?_))
 rw[fA (by decide)]
 refine RJ fr (ff.of_keeps λb o hb _=>⟨o,mk.keeps b o hb,rfl⟩) ef ge (λb o hb=>mk.keeps b o (st b o hb)) (new e mk.new) rfl (by simp) (a0:=.ref t) rfl rfl λk ⟨x1,x2,x3,x4⟩ nk=>?_
 refine SJ (s:={s with heap:=k}) x1 x2 x3 nk (new e mk.new) λk' ⟨f1,f2,⟨_,_,f3⟩,f4⟩ up' nk'=>?_
 exact q k' t ⟨f1,f2,f3,f4⟩ (Heap.UpToSlots.trans (λb o g nf=>x4 b o g nf) up') nk'
end
end L2
namespace L2
open PySem PySem.Spec PyProof.Rows
structure GY (B:Heap) (l:List Env) (h:Heap) (H H':Hp) (h':Heap) (ea:Addr) (cls:Value):Prop where
 fl:∃a0,Heap.FlyingW B l ea cls a0 h'
 trk:∀b u,H' b=some u->∃o,B.get? b=some o
 kept:∀b o,h.get? b=some o->H b=none->b∉fG l->B.get? b=some o
 alive:∀b o,h.get? b=some o->b∉fG l->∃o',B.get? b=some o'
 nc:gI ea h'
noncomputable def wI (P:Program) (w:World):CXT:=λouter H s E e s'=>∃ea cls H' B,e=.ref ea/\s'.os=s.os/\AllBare s'.gens/\Un (fG outer) [] H H' s.heap s'.heap/\rG P w H' s'.heap/\GY B outer s.heap H H' s'.heap ea cls/\E cls none H'
noncomputable abbrev XKs:=Value->St->Hp->Prop
noncomputable def XW (X:Cx) (K:XKs):Prop:=∀(pins:List (Addr×Obj)) (σ:St) (H:Hp) (s s':Shared) (ea:Addr) (cls:Value) (H':Hp) (B:Heap),wE X pins σ H s->s'.os=s.os->AllBare s'.gens->
 Un (fG X.stack) [] H H' s.heap s'.heap->rG X.prog X.w H' s'.heap->GY B X.stack s.heap H H' s'.heap ea cls->K cls σ H'->X.xe (.ref ea) s'
theorem HY {env:Env} {l:List Env} {L:Addr} (h:env.frame=some L):fG (env::l)=L::fG l:=by
 unfold fG;rw[cD,h]
theorem rG.flown {P:Program} {w:World} {H:Hp} {B h h':Heap} (x:rG P w H h) (t:∀b u,H b=some u->∃o,B.get? b=some o) (s:B.StaysIn h) (s':B.StaysIn h'):rG P w H h':=λa o e=>
 (x a o e).stay (λb u hb q=>by
  have hB:∃o,B.get? b=some o:=by
   rcases hb with rfl|hb
   ·exact t _ _ e
   ·exact t _ _ hb
  obtain⟨o',ho⟩:=hB
  have e1:=s b o' ho
  rw[q] at e1;cases e1
  exact s' b _ ho) (λ_ q=>q) λ_ _ q=>q
theorem nF {P:Program} {w:World} {K:PySem.W.Frag} {mg:Str->Option Value} {base:Heap} {N:List Str} {qual:Str} {scope:Scope} {f:Addr} {cd:Value} {A:Around} {outer:List Env} {s0:Shared} {H0:Hp} {E:XK}:
  XW (gG (wI P w) P w K mg base N qual scope f cd A outer s0 H0 E) (λc _ H'=>E c none H'):=by
 intro pins σ H s s' ea cls H' B I os bare un hok fly hK
 have I':=I.call' (s':=s') (ch:=[]) os un hok bare (λb z=>absurd z (by simp))
 have hfr:=I.ok.frames
 have hstk:(gG (wI P w) P w K mg base N qual scope f cd A outer s0 H0 E).stack=envOfC qual scope s0.heap.objs.size f cd::outer:=rfl
 rw[hstk] at hfr
 obtain⟨a0,hfl⟩:=fly.fl
 have hf:(envOfC qual scope s0.heap.objs.size f cd).frame=some s0.heap.objs.size:=rfl
 show wpAny _ _ (leaving (envOfC qual scope s0.heap.objs.size f cd) (.ref ea)) _ _ s'
 refine IK hfr hf hfl fly.nc λh' fl' up nc'=>?_
 have hfs:fG (envOfC qual scope s0.heap.objs.size f cd::outer)=s0.heap.objs.size::fG outer:=HY hf
 have nf:∀b o,s0.heap.get? b=some o->b∉fG outer->b∉fG (envOfC qual scope s0.heap.objs.size f cd::outer):=λb o e n z=>by
  rw[hfs] at z
  rcases xA.mp z with z|z
  ·exact absurd (HA e) (by rw[z];exact SB _)
  ·exact n z
 have stay:∀b o,s0.heap.get? b=some o->H0 b=none->b∉fG outer->B.get? b=some o:=λb o e n hb=>
  fly.kept b o (I.base.keep b o e n hb (by intro z;exact absurd z (by simp[gG]))) (I.base.free b o e n (by intro z;exact absurd z (by simp[gG]))) (nf b o e hb)
 have FF:∀b o,s0.heap.get? b=some o->b∉fG outer->∃o',B.get? b=some o':=λb o e hb=>by
  obtain⟨o1,e1⟩:=I.base.there b o e (by intro z;exact absurd z (by simp[gG]))
  exact fly.alive b o1 e1 (nf b o e hb)
 refine⟨ea,cls,H',B,rfl,I'.os,bare,?_,hok.flown fly.trk hfl.1 fl'.1,⟨⟨a0,fl'⟩,fly.trk,stay,FF,nc'⟩,hK⟩
 have noA:∀b:Addr,b∉(gG (wI P w) P w K mg base N qual scope f cd A outer s0 H0 E).ex:=λb z=>absurd z (by simp[gG])
 have slotOf:∀b,b∈fG outer->∀o,s'.heap.get? b=some o->∃sl,h'.get? b=some {o with slots:=sl}:=λb hb o e=>by
  have hm:b∈fG (envOfC qual scope s0.heap.objs.size f cd::outer):=by rw[hfs];exact jA _ hb
  obtain⟨_,o',ho',hd⟩:=hfl.2.2.1.mem hm
  rw[e] at ho';cases ho'
  exact up b o e hd
 refine⟨λb o e n hb _=>fl'.1 b o (stay b o e n hb),λb o e n hb _=>?_,λb o e n _=>I'.base.free b o e n (noA b),λb o e _=>?_,I'.base.tups,I'.base.frzs,I'.base.tbls⟩
 ·obtain⟨sl,e1⟩:=I'.base.slot b o e n hb (noA b)
  obtain⟨sl',e2⟩:=slotOf b hb _ e1
  exact⟨sl',e2⟩
 ·by_cases hb:b∈fG outer
  ·obtain⟨o1,e1⟩:=I'.base.there b o e (noA b)
   obtain⟨sl,e2⟩:=slotOf b hb _ e1
   exact⟨_,e2⟩
  ·obtain⟨o1,e1⟩:=FF b o e hb
   exact⟨o1,fl'.1 b o1 e1⟩
noncomputable def XG (P:Program) (w:World) (K:PySem.W.Frag) (mg:Str->Option Value) (base:Heap) (x:Str) (k:Nat) (ps:List Str) (dvs:List V) (sp:Sp):Prop:=
 ∃f fd ds,mg x=some (.ref f)/\PySem.W.keepIn K (.ref f)=true/\kG K fd ps ds/\BE dvs ds/\NG P w K mg base (wI P w) k f fd ps sp
noncomputable def RE (P:Program) (w:World) (K:PySem.W.Frag) (mg:Str->Option Value) (base:Heap) (C:Addr) (m:Str) (k:Nat) (ps:List Str) (dvs:List V) (sp:Sp):Prop:=
 ∃f fd ds,RI K C m f/\kG K fd ps ds/\BE dvs ds/\NG P w K mg base (wI P w) k f fd ps sp
noncomputable def RH (P:Program) (w:World) (K:PySem.W.Frag) (mg:Str->Option Value) (base:Heap) (x:Str) (C:Addr) (k:Nat) (ps:List Str) (dvs:List V) (sp:Sp):Prop:=
 ∃f fd ds,mg x=some (.ref C)/\Mk K C f/\kG K fd ps ds/\BE dvs ds/\NG P w K mg base (wI P w) k f fd ps sp
noncomputable def TJ (Kx:XKs) (sp:Sp) (dvs:List V) (t:TA):TE:=λσ H Q=>t σ H λvs H1=>sp (vs++dvs) H1 Q (λc _ H'=>Kx c σ H')
noncomputable def WI (Kx:XKs) (C:Addr) (m:Str) (sp:Sp) (dvs:List V) (ta:TE) (t:TA):TE:=λσ H Q=>ta σ H λx H1=>∃a dx fs,x=.ref a/\H1 a=some (.ins C dx fs)/\fs.lookup m=none/\
 t σ H1 λvs H2=>sp (x::(vs++dvs)) H2 Q (λc _ H'=>Kx c σ H')
noncomputable def UJ (Kx:XKs) (C:Addr) (sp:Sp) (dvs:List V) (t:TA):TE:=λσ H Q=>t σ H λvs H1=>∀x dx,H1 x=none->H1 dx=none->dx≠x->
 sp (.ref x::(vs++dvs)) (upd (upd H1 dx (.own x)) x (.ins C dx [])) (λv H2=>v=.non/\Q (.ref x) H2) (λc _ H'=>Kx c σ H')
section
variable {X:Cx} {Kx:XKs} {k:Nat} {f C:Addr} {fd:FuncData} {ps:List Str} {sp:Sp} {dvs:List V} {ds:List Value} {x m:Str} {p pos apos:Pos} {e o:Expr} {es:List Expr} {ta:TE} {t:TA}
theorem LS {pins:List (Addr×Obj)} {σ:St} {H:Hp} {s:Shared} {Q:VK} {us:List Value} {vs:List V} (F:NG X.prog X.w X.K X.mg X.base (wI X.prog X.w) k f fd ps sp) (hr:CF k X.A) (hb:kG X.K fd ps ds) (hd:BE dvs ds) (hx:XW X Kx)
  (I:wE X pins σ H s) (r:BE vs us) (h:sp (vs++dvs) H Q (λc _ H'=>Kx c σ H')):wpAny (model X.prog X.w) X.A (call (.ref f) us) (EP X pins σ Q) X.xe s:=by
 have r2:BE (vs++dvs) (us++ds):=r.append hd
 have hl:(us++ds).length=ps.length:=by rw[<-r2.length];exact F.len _ _ _ _ h
 refine wpAny_call (iE (F.run X.A X.stack s H ⟨us,[]⟩ (us++ds) (vs++dvs) Q _ hr I.env0 (hb s us I.kIn hl) r2 h) λr s' hq=>?_)
 cases r with
 |error e=>
  obtain⟨ea,cls,H',B,rfl,os,bare,un,hok,fly,hK⟩:=hq
  exact hx pins σ H s s' ea cls H' B I os bare un hok fly hK
 |ok fl=>
  cases fl with
  |ret u=>exact I.after hq
  |next=>exact False.elim hq
  |brk=>exact False.elim hq
  |cont=>exact False.elim hq
theorem DG (F:XG X.prog X.w X.K X.mg X.base x k ps dvs sp) (hr:CF k X.A) (hx:XW X Kx) (ha:PA X (e::es) t) (hg:Gl X x:=by rfl) (hdb:(x == ("__debug__":Str))=false:=by decide)
  (he:starEach (e::es) X.env=(false,eval e X.env)::starEach es X.env:=by rfl) (hpl:(backTo pos (starEach es X.env)).any (·.1)=false:=by rfl):
  PE X (.Call (.Name x p) (e::es) [] pos) (TJ Kx sp dvs t):=by
 obtain⟨f,fd,ds,hm,hk,hb,hd,F⟩:=F
 intro pins s σ H Q I h
 refine iD (pS I hg hm ?_ hdb)
 refine PySem.W.callWith_K (h₀:=X.base) I.ok.mod.kin hk (mF (ha pos pins s σ H _ I h) λus s1 ⟨vs,H1,I1,r,q⟩=>⟨I1.kIn,?_⟩) he hpl
 exact LS F hr hb hd hx I1 r q
theorem iI {pl:Sem Bool} (ho:PE X o ta) (c:JI X.K C) (F:RE X.prog X.w X.K X.mg X.base C m k ps dvs sp) (hr:CF k X.A) (hx:XW X Kx) (ha:PA X (e::es) t)
  (hst:starEach (e::es) X.env=(false,eval e X.env)::starEach es X.env:=by rfl) (hpl:(backTo pos (starEach es X.env)).any (·.1)=false:=by rfl)
  (ht:eval (.Call (.Attribute o m apos) (e::es) [] pos) X.env=(do
   let ov<-eval o X.env
   standAt apos.atName
   let (f,first)<-holding [ov] (getMethod ov m pl)
   callWith pos f first (backTo pos (starEach (e::es) X.env)) (backToKw pos (keywordEach [] X.env))):=by rfl):
  PE X (.Call (.Attribute o m apos) (e::es) [] pos) (WI Kx C m sp dvs ta t):=by
 obtain⟨f,fd,ds,hm,hb,hd,F⟩:=F
 intro pins s σ H Q I h
 refine PySem.W.methodCall_KW (pl:=pl) (mF (ho pins s σ H _ I h) λu s1 ⟨x,H1,I1,rx,a,dx,fs,ex,ea,l,q⟩=>?_) ht
 subst ex
 obtain rfl:u=Value.ref a:=rx
 refine kY I1 ea c hm l ?_
 refine PySem.W.callWith_K (first:=[.ref a]) (h₀:=X.base) I.ok.mod.kin hm.kp (mF (ha pos pins s1 σ H1 _ I1 q) λus s2 ⟨vs,H2,I2,r,q2⟩=>⟨I2.kIn,?_⟩) hst hpl
 exact LS (us:=.ref a::us) (vs:=.ref a::vs) F hr hb hd hx I2 (.cons rfl r) q2
theorem KH {pl:Sem Bool} (ho:PE X o ta) (c:JI X.K C) (F:RE X.prog X.w X.K X.mg X.base C m k ps dvs sp) (hr:CF k X.A) (hx:XW X Kx)
  (ht:eval (.Call (.Attribute o m apos) [] [] pos) X.env=(do
   let ov<-eval o X.env
   standAt apos.atName
   let (f,first)<-holding [ov] (getMethod ov m pl)
   callWith pos f first (backTo pos (starEach [] X.env)) (backToKw pos (keywordEach [] X.env))):=by rfl):
  PE X (.Call (.Attribute o m apos) [] [] pos) (WI Kx C m sp dvs ta tNil):=by
 obtain⟨f,fd,ds,hm,hb,hd,F⟩:=F
 intro pins s σ H Q I h
 refine PySem.W.methodCall_KW (pl:=pl) (mF (ho pins s σ H _ I h) λu s1 ⟨x,H1,I1,rx,a,dx,fs,ex,ea,l,q⟩=>?_) ht
 subst ex
 obtain rfl:u=Value.ref a:=rx
 refine kY I1 ea c hm l ?_
 exact PySem.W.callWith_K0 (first:=[.ref a]) I1.kIn hm.kp (LS (us:=[.ref a]) (vs:=[.ref a]) F hr hb hd hx I1 (.cons rfl .nil) q)
theorem j6 {pins:List (Addr×Obj)} {σ:St} {H:Hp} {s:Shared} {Q:VK} {us:List Value} {vs:List V} (M:Mk X.K C f) (F:NG X.prog X.w X.K X.mg X.base (wI X.prog X.w) k f fd ps sp) (hr:CF (k+1) X.A) (hb:kG X.K fd ps ds) (hd:BE dvs ds)
  (hx:XW X Kx) (I:wE X pins σ H s) (r:BE vs us)
  (h:∀x dx,H x=none->H dx=none->dx≠x->sp (.ref x::(vs++dvs)) (upd (upd H dx (.own x)) x (.ins C dx [])) (λv H2=>v=.non/\Q (.ref x) H2) (λc _ H'=>Kx c σ H')):
  wpAny (model X.prog X.w) X.A (call (.ref C) us) (EP X pins σ Q) X.xe s:=by
 have hq:=h (s.heap.objs.size+1) s.heap.objs.size (I.hok.fresh (nE _)) (I.hok.fresh (pA _)) (VA (dE _))
 have I2:=wE.made (C:=C) I
 have r2:BE (V.ref (s.heap.objs.size+1)::(vs++dvs)) (Value.ref (s.heap.objs.size+1)::(us++ds)):=.cons rfl (r.append hd)
 have hl:(Value.ref (s.heap.objs.size+1)::us++ds).length=ps.length:=by
  have e:=r2.length
  rw[F.len _ _ _ _ hq] at e
  exact e.symm
 refine wpAny_call (S4 (f:=f) I.kIn M.makes M.init (YB.mp M.fn) (iE (F.run _ X.stack _ _ ⟨Value.ref (s.heap.objs.size+1)::us,[]⟩ (Value.ref (s.heap.objs.size+1)::(us++ds)) _ _ _ (hr.make C us [])
  (I2.env0.make C us []) (hb _ (Value.ref (s.heap.objs.size+1)::us) I2.kIn hl) r2 hq) λr s' hq'=>?_))
 cases r with
 |error e=>
  obtain⟨ea,cls,H',B,rfl,os,bare,un,hok,fly,hK⟩:=hq'
  exact hx pins σ _ _ s' ea cls H' B I2 os bare un hok fly hK
 |ok fl=>
  cases fl with
  |ret u=>
   obtain⟨v,H',I3,rv,ev,q3⟩:=I2.after hq'
   subst ev
   exact⟨rv,⟨V.ref (s.heap.objs.size+1),H',I3,rfl,q3⟩⟩
  |next=>exact False.elim hq'
  |brk=>exact False.elim hq'
  |cont=>exact False.elim hq'
theorem eR (F:RH X.prog X.w X.K X.mg X.base x C k ps dvs sp) (hr:CF (k+1) X.A) (hx:XW X Kx) (ha:PA X (e::es) t) (hg:Gl X x:=by rfl) (hdb:(x == ("__debug__":Str))=false:=by decide)
  (he:starEach (e::es) X.env=(false,eval e X.env)::starEach es X.env:=by rfl) (hpl:(backTo pos (starEach es X.env)).any (·.1)=false:=by rfl):
  PE X (.Call (.Name x p) (e::es) [] pos) (UJ Kx C sp dvs t):=by
 obtain⟨f,fd,ds,hm,M,hb,hd,F⟩:=F
 intro pins s σ H Q I h
 refine iD (pS I hg hm ?_ hdb)
 refine PySem.W.callWith_K (h₀:=X.base) I.ok.mod.kin M.kp (mF (ha pos pins s σ H _ I h) λus s1 ⟨vs,H1,I1,r,q⟩=>⟨I1.kIn,?_⟩) he hpl
 exact j6 M F hr hb hd hx I1 r q
theorem VJ {n:String} (hg:Gl X x) (hm:X.mg x=none) (hv:bootBuiltins x=some (.type n)) (hn:x≠"__name__":=by decide) (hd:(x == ("__debug__":Str))=false:=by decide):PE X (.Name x pos) (tC (.ty n)):=Y3 hg hm hv rfl hn hd
end
noncomputable def XI (K:PySem.W.Frag) (mg:Str->Option Value) (x qual:Str) (st:Stmt) (ps:List Str) (dvs:List V):Prop:=∃f fd ds,mg x=some (.ref f)/\VI K x qual st f fd/\kG K fd ps ds/\BE dvs ds
noncomputable def DF (K:PySem.W.Frag) (C:Addr) (m qual:Str) (st:Stmt) (ps:List Str) (dvs:List V):Prop:=∃f fd ds,RI K C m f/\VI K m qual st f fd/\kG K fd ps ds/\BE dvs ds
noncomputable def tJ (K:PySem.W.Frag) (mg:Str->Option Value) (x:Str) (C:Addr) (qual:Str) (st:Stmt) (ps:List Str) (dvs:List V):Prop:=∃f fd ds,mg x=some (.ref C)/\Mk K C f/\VI K "__init__" qual st f fd/\kG K fd ps ds/\BE dvs ds
section
variable {P:Program} {w:World} {K:PySem.W.Frag} {mg:Str->Option Value} {base:Heap}
noncomputable def jI (P:Program) (w:World) (K:PySem.W.Frag) (mg:Str->Option Value) (base:Heap) (qual:Str) (st:Stmt) (N:List Str) (k:Nat) (sp:Sp):Prop:=
 ∀(f:Addr) (cdv:Value) (A:Around) (outer:List Env) (s:Shared) (H:Hp) (vs:List V) (Q:VK) (E:XK),CF k (A.deeper (envOfC qual (qE st) s.heap.objs.size f cdv))->sp vs H Q E->
  ∃t,oI (gG (wI P w) P w K mg base N qual (qE st) f cdv A outer s H E) (dF st) t/\t {nx:=λ_ H'=>Q .non H',rt:=Q} (BG N vs) H
theorem VI.okE {x qual:Str} {st:Stmt} {f:Addr} {fd:FuncData} {N ps:List Str} {k:Nat} {sp:Sp} (F:VI K x qual st f fd) (S:tE N ps (qE st)) (len:∀vs H Q E,sp vs H Q E->vs.length=ps.length)
  (hbody:jI P w K mg base qual st N k sp):NG P w K mg base (wI P w) (k+1) f fd ps sp:=by
 obtain⟨oc,od,kV,doc,pm,an,cdv,ct,osl,rfl,lk,hcd⟩:=F.ex
 exact yS lk hcd S len λA outer s H vs Q E hr hsp=>hbody f cdv A outer s H vs Q E hr hsp
theorem XI.have {x qual:Str} {st:Stmt} {N ps:List Str} {dvs:List V} {k:Nat} {sp:Sp} (R:XI K mg x qual st ps dvs) (S:tE N ps (qE st)) (len:∀vs H Q E,sp vs H Q E->vs.length=ps.length)
  (hbody:jI P w K mg base qual st N k sp):XG P w K mg base x (k+1) ps dvs sp:=
 let ⟨f,fd,ds,hm,F,hb,hd⟩:=R
 ⟨f,fd,ds,hm,F.kp,hb,hd,F.okE S len hbody⟩
theorem DF.have {C:Addr} {m qual:Str} {st:Stmt} {N ps:List Str} {dvs:List V} {k:Nat} {sp:Sp} (R:DF K C m qual st ps dvs) (S:tE N ps (qE st)) (len:∀vs H Q E,sp vs H Q E->vs.length=ps.length)
  (hbody:jI P w K mg base qual st N k sp):RE P w K mg base C m (k+1) ps dvs sp:=
 let ⟨f,fd,ds,hm,F,hb,hd⟩:=R
 ⟨f,fd,ds,hm,hb,hd,F.okE S len hbody⟩
theorem tJ.have {C:Addr} {x qual:Str} {st:Stmt} {N ps:List Str} {dvs:List V} {k:Nat} {sp:Sp} (R:tJ K mg x C qual st ps dvs) (S:tE N ps (qE st)) (len:∀vs H Q E,sp vs H Q E->vs.length=ps.length)
  (hbody:jI P w K mg base qual st N k sp):RH P w K mg base x C (k+1) ps dvs sp:=
 let ⟨f,fd,ds,hm,M,F,hb,hd⟩:=R
 ⟨f,fd,ds,hm,M,hb,hd,F.okE S len hbody⟩
end
end L2
namespace L2
open PySem PySem.Spec PyProof.Rows
noncomputable def XR (X:Cx) (K:XKs):Prop:=∀(pins:List (Addr×Obj)) (σ:St) (H:Hp) (s:Shared) (h':Heap) (e:Addr) (cls:Value) (args:List Value),wE X pins σ H s->Heap.MadeExcOf s.heap h' e cls args->K cls σ H->X.xe (.ref e) {s with heap:=h'}
theorem rG.alive {P:Program} {w:World} {H:Hp} {h:Heap} (x:rG P w H h) {b:Addr} {u:HO} (e:H b=some u):∃o,h.get? b=some o:=by
 have q:=x b u e
 cases u with
 |lst xs=>obtain⟨_,_,_,_,e⟩:=q;exact⟨_,e⟩
 |tup xs=>obtain⟨_,_,_,⟨o,e,_⟩⟩:=q;exact⟨_,e⟩
 |dK kvs=>obtain⟨_,_,_,_,o,_,_,e,_⟩:=q;exact⟨_,e⟩
 |dT kvs=>obtain⟨_,_,_,_,o,_,_,e,_⟩:=q;exact⟨_,e⟩
 |set S n=>obtain⟨o,_,_,_,e,_⟩:=q;exact⟨_,e⟩
 |ins C dx fs=>obtain⟨_,_,_,e,_⟩:=q;exact⟨_,e⟩
 |own y=>exact q
 |xd fs=>obtain⟨_,⟨_,_,_,e,_⟩,_⟩:=q;exact⟨_,e⟩
 |rng lo hi=>obtain⟨_,_,_,e⟩:=q;exact⟨_,e⟩
 |frz ob u=>obtain⟨e,_⟩:=q;exact⟨_,e⟩
 |tbl ps=>exact⟨_,q⟩
 |met f y=>exact⟨_,q⟩
 |ext φ=>obtain⟨_,e,_⟩:=q;exact e
theorem GM {P:Program} {w:World} {K:PySem.W.Frag} {mg:Str->Option Value} {base:Heap} {N:List Str} {qual:Str} {scope:Scope} {f:Addr} {cd:Value} {A:Around} {outer:List Env} {s0:Shared} {H0:Hp} {E:XK}:
  XR (gG (wI P w) P w K mg base N qual scope f cd A outer s0 H0 E) (λc _ H'=>E c none H'):=by
 intro pins σ H s h1 ea cls args I mk hK
 have hfr:=I.ok.frames
 have hstk:(gG (wI P w) P w K mg base N qual scope f cd A outer s0 H0 E).stack=envOfC qual scope s0.heap.objs.size f cd::outer:=rfl
 have hfun:=I.stack
 have hfree:=I.stkFree
 rw[hstk] at hfr hfun hfree
 have hf:(envOfC qual scope s0.heap.objs.size f cd).frame=some s0.heap.objs.size:=rfl
 have hfs:fG (envOfC qual scope s0.heap.objs.size f cd::outer)=s0.heap.objs.size::fG outer:=HY hf
 have noA:∀b:Addr,b∉(gG (wI P w) P w K mg base N qual scope f cd A outer s0 H0 E).ex:=λb z=>absurd z (by simp[gG])
 have nf:∀b o,s0.heap.get? b=some o->b∉fG outer->b∉fG (envOfC qual scope s0.heap.objs.size f cd::outer):=λb o e n z=>by
  rw[hfs] at z
  rcases xA.mp z with z|z
  ·exact absurd (HA e) (by rw[z];exact SB _)
  ·exact n z
 show wpAny _ _ (leaving (envOfC qual scope s0.heap.objs.size f cd) (.ref ea)) _ _ _
 refine vI (B:=PySem.W.hideAll s.heap (fG (envOfC qual scope s0.heap.objs.size f cd::outer))) (h:=s.heap) hfr hf (λb o q=>PySem.W.of_hideAll _ q)
  (PySem.W.funFrames_hide hfun λenv he b hb=>kC.mpr ⟨env,he,hb⟩) mk λh' t fl' up nc'=>?_
 have inB:∀b o,s.heap.get? b=some o->b∉fG (envOfC qual scope s0.heap.objs.size f cd::outer)->(PySem.W.hideAll s.heap (fG (envOfC qual scope s0.heap.objs.size f cd::outer))).get? b=some o:=λb o e n=>PySem.W.hideAll_get _ e n
 have stay:∀b o,s0.heap.get? b=some o->H0 b=none->b∉fG outer->(PySem.W.hideAll s.heap (fG (envOfC qual scope s0.heap.objs.size f cd::outer))).get? b=some o:=λb o e n hb=>
  inB b o (I.base.keep b o e n hb (noA b)) (nf b o e hb)
 have FF:∀b o,s0.heap.get? b=some o->b∉fG outer->∃o',(PySem.W.hideAll s.heap (fG (envOfC qual scope s0.heap.objs.size f cd::outer))).get? b=some o':=λb o e hb=>by
  obtain⟨o1,e1⟩:=I.base.there b o e (noA b)
  exact⟨o1,inB b o1 e1 (nf b o e hb)⟩
 have trk:∀b u,H b=some u->∃o,(PySem.W.hideAll s.heap (fG (envOfC qual scope s0.heap.objs.size f cd::outer))).get? b=some o:=λb u e=>by
  obtain⟨o,ho⟩:=I.hok.alive e
  exact⟨o,inB b o ho λz=>by rw[hfree b z] at e;cases e⟩
 have slotOf:∀b,b∈fG outer->∀o,s.heap.get? b=some o->∃sl,h'.get? b=some {o with slots:=sl}:=λb hb o e=>by
  have hm:b∈fG (envOfC qual scope s0.heap.objs.size f cd::outer):=by rw[hfs];exact jA _ hb
  obtain⟨_,o',ho',hd⟩:=hfun.mem hm
  rw[e] at ho';cases ho'
  exact up b o (mk.keeps b o e) hd
 refine⟨ea,cls,H,_,rfl,I.os,I.bare,?_,I.hok.flown trk (λb o q=>PySem.W.of_hideAll _ q) fl'.1,⟨⟨_,fl'⟩,trk,stay,FF,nc'⟩,hK⟩
 refine⟨λb o e n hb _=>fl'.1 b o (stay b o e n hb),λb o e n hb _=>?_,λb o e n _=>I.base.free b o e n (noA b),λb o e _=>?_,I.base.tups,I.base.frzs,I.base.tbls⟩
 ·obtain⟨sl,e1⟩:=I.base.slot b o e n hb (noA b)
  obtain⟨sl',e2⟩:=slotOf b hb _ e1
  exact⟨sl',e2⟩
 ·by_cases hb:b∈fG outer
  ·obtain⟨o1,e1⟩:=I.base.there b o e (noA b)
   obtain⟨sl,e2⟩:=slotOf b hb _ e1
   exact⟨_,e2⟩
  ·obtain⟨o1,e1⟩:=FF b o e hb
   exact⟨o1,fl'.1 b o1 e1⟩
abbrev qL:List Value:=[.type "ValueError",.type "Exception",.type "BaseException",.type "object"]
structure XC (K:PySem.W.Frag) (mg:Str->Option Value) (x:Str) (C:Addr):Prop where
 m:mg x=some (.ref C)
 ex:PySem.W.excIn K C qL "ValueError.__new__"=true
theorem l6 {K:PySem.W.Frag} {h:Heap} {C:Addr} {l:List Value} {id:String} (hin:K.In h) (q:PySem.W.excIn K C l id=true):
  ∃bm N nm qn bs hdct sn sub ab col dd k0 k1 k2 k3 k5 mN,h.get? C=some (excClassObj nm qn C N bs bm hdct sn sub ab col dd k0 k1 k2 k3 k5 id)/\h.Ns N mN/\mN "__init__"=none/\OwnTail h l bm:=by
 unfold PySem.W.excIn at q
 split at q
 case h_2=>cases q
 case h_1 dd cd sl ho=>
  split at q
  case h_2=>cases q
  case h_1 C' bm k0 k1 k2 k3 n k5 hm hs=>
   rw[kB,kB,kB,kB,kB] at q
   obtain⟨⟨⟨⟨⟨q1,q2⟩,q3⟩,q4⟩,q5⟩,q6⟩:=q
   have e1:=YB.mp q1
   have e2:=YB.mp q2
   have e6:=YB.mp q6
   subst e1 e2
   obtain⟨nm,bs,mro,ns,qn,hd,sn,sub,ab,col,del⟩:=cd
   have e3:del=false:=by
    cases del with
    |false=>rfl
    |true=>cases q3
   have hm':mro=.ref C'::bm:=hm
   subst e3 hm'
   obtain⟨l'⟩:=sl
   have hs':l'=[k0,k1,k2,k3,some (.builtin n),k5]:=hs
   subst hs'
   exact⟨bm,ns,nm,qn,bs,hd,sn,sub,ab,col,dd,k0,k1,k2,k3,k5,_,hin _ _ ho,.of_isNs (PySem.W.isNs_of_in hin q5),PySem.W.nsMap_none_of_in hin q5 e6,PySem.W.tail_of_in hin q4⟩
noncomputable def WJ (Kx:XKs) (C:Addr) (t:TA):TS:=λ_ σ H=>t σ H λvs H1=>vs.length<=sizeLine/\Kx (.ref C) σ H1
theorem o6 {X:Cx} {Kx:XKs} {C:Addr} {x:Str} {np cpos pos:Pos} {e:Expr} {es:List Expr} {t:TA} (hx:XR X Kx) (hc:X.calm=true) (c:XC X.K X.mg x C) (ha:PA X (e::es) t) (hg:Gl X x:=by rfl) (hd:(x == ("__debug__":Str))=false:=by decide)
  (he:starEach (e::es) X.env=(false,eval e X.env)::starEach es X.env:=by rfl) (hpl:(backTo cpos (starEach es X.env)).any (·.1)=false:=by rfl):
  PS X (.Raise (some (.Call (.Name x np) (e::es) [] cpos)) none pos) (WJ Kx C t):=by
 intro pins s σ H D I h
 obtain⟨bm,N,nm,qn,bs,hdct,sn,sub,ab,col,dd,k0,k1,k2,k3,k5,mN,hC,hN,hni,T⟩:=l6 I.mod.kin c.ex
 refine wpAny_Raise_call_subT (C:=C) (nm:=nm) (q:=qn) (N:=N) (bs:=bs) (bm:=bm) (hdct:=hdct) (sn:=sn) (sub:=sub) (ab:=ab) (col:=col) (dd:=dd) (k0:=k0) (k1:=k1) (k2:=k2) (k3:=k3) (k5:=k5) (mN:=mN) PySem.F.excBase_ValueError (T.hasType PySem.F.excBase_ValueError.hasBase) (I.ok.hd hc) (by rw[he];show (false || (backTo cpos (starEach es X.env)).any (·.1))=false;rw[hpl];rfl) hni
  (pS I hg c.m ⟨rfl,?_⟩ hd)
 have q:=ha cpos pins s σ H _ I h
 rw[he] at q ⊢
 refine FD (LB q (λus s2 hq=>?_) λ_ _ y=>y)
 obtain⟨vs,H1,I1,r,hl,hk⟩:=hq
 exact⟨rfl,by rw[<-r.length];exact hl,I1.bk _ _ hC,hN.keeps I1.bk,T.keeps I1.bk,λh' ea mk=>hx pins σ H1 s2 h' ea (.ref C) us I1 mk hk⟩
end L2
namespace L2
open PySem PySem.Spec PyProof.Rows
noncomputable def rH:Option HO->String
 |some (.lst _)=>"list"
 |some (.frz _ (.lst _))=>"list"
 |some (.tup _)=>"tuple"
 |some (.dK _)=>"dict"
 |some (.dT _)=>"dict"
 |_=>""
noncomputable def kd (H:Hp):V->String
 |.non=>"NoneType"
 |.bl _=>"bool"
 |.int _=>"int"
 |.str _=>"str"
 |.ref a=>rH (H a)
 |_=>""
noncomputable def Kn (H:Hp) (x:V):Prop:=kd H x≠""
noncomputable def YI (n:String) (H:Hp) (x:V):Bool:=kd H x == n || (kd H x == "bool"&&n == "int")
theorem pP {K:PySem.W.Frag} {H:Hp} {x:V} (h:Kn H x):WG K H x (.type (kd H x)):=by
 cases x with
 |non=>exact .non
 |bl b=>exact .bl b
 |int i=>exact .int i
 |str s=>exact .str s
 |ref a=>
  have h:rH (H a)≠"":=h
  show WG K H (.ref a) (.type (rH (H a)))
  cases e:H a with
  |none=>rw[e] at h;exact absurd rfl h
  |some o=>
   rw[e] at h
   cases o with
   |lst xs=>exact .lst e
   |tup xs=>exact .tup e
   |dK k=>exact .dK e
   |dT k=>exact .dT e
   |frz ob u=>
    cases u with
    |lst xs=>exact .frz e
    |_=>exact absurd rfl h
   |_=>exact absurd rfl h
 |_=>exact absurd rfl h
theorem p6 (o:Option HO):rH o=""\/rH o="list"\/rH o="tuple"\/rH o="dict":=by
 unfold rH
 split<;>simp
theorem Kn.cases {H:Hp} {x:V} (h:Kn H x):kd H x="NoneType"\/kd H x="bool"\/kd H x="int"\/kd H x="str"\/kd H x="list"\/kd H x="tuple"\/kd H x="dict":=by
 cases x with
 |ref a=>
  have h:rH (H a)≠"":=h
  show rH (H a)=_\/rH (H a)=_\/rH (H a)=_\/rH (H a)=_\/rH (H a)=_\/rH (H a)=_\/rH (H a)=_
  rcases p6 (H a) with e|e|e|e
  ·exact absurd e h
  ·exact .inr (.inr (.inr (.inr (.inl e))))
  ·exact .inr (.inr (.inr (.inr (.inr (.inl e)))))
  ·exact .inr (.inr (.inr (.inr (.inr (.inr e)))))
 |non=>exact .inl rfl
 |bl b=>exact .inr (.inl rfl)
 |int i=>exact .inr (.inr (.inl rfl))
 |str z=>exact .inr (.inr (.inr (.inl rfl)))
 |_=>exact absurd rfl h
theorem r6 (K:PySem.W.Frag):∀k∈["NoneType","bool","int","str","list","tuple","dict"],∀n∈["bool","int","str","list","tuple","dict"],PySem.W.kitOne K (.type k) (.type n)=some (k == n || (k == "bool"&&n == "int")):=by
 have e:∀k∈["NoneType","bool","int","str","list","tuple","dict"],∀n∈["bool","int","str","list","tuple","dict"],(if (Value.type k == Value.type n)=true then some true else if PySem.W.kitMeta n=true then (fastBuiltinMro k).map (·.contains (.type n)) else none)=some (k == n || (k == "bool"&&n == "int")):=by decide+kernel
 exact λk hk n hn=>e k hk n hn
theorem XJ {X:Cx}:zG X (.builtin "isinstance") (λxs H Q=>∃x n,xs=[x,.ty n]/\n∈["bool","int","str","list","tuple","dict"]/\Kn H x/\Q (.bl (YI n H x)) H):=by
 intro pins s σ H xs us Q I r h
 obtain⟨x,n,rfl,hn,hk,q⟩:=h
 cases r with
 |cons r1 rr=>
  cases rr with
  |cons r2 rr=>
   cases rr
   cases r2
   refine X4 I r1 (pP hk) (r6 X.K _ ?_ n hn) λtk=>⟨.bl _,H,I.tok tk,rfl,q⟩
   rcases hk.cases with e|e|e|e|e|e|e<;>rw[e]<;>simp
end L2
namespace L2
open PySem PySem.Spec PyProof.Rows
theorem HM {H:Hp} {i:Int}:Kn H (.int i)↔True:=⟨λ_=>trivial,λ_=>(by decide:"int"≠"")⟩
theorem qP {H:Hp} {i:Bool}:Kn H (.bl i)↔True:=⟨λ_=>trivial,λ_=>(by decide:"bool"≠"")⟩
theorem IM {H:Hp} {i:Str}:Kn H (.str i)↔True:=⟨λ_=>trivial,λ_=>(by decide:"str"≠"")⟩
theorem mO {H:Hp} {a:Addr} {xs:List V} (h:H a=some (.lst xs)):Kn H (.ref a):=λz=>by
 have z:rH (H a)="":=z
 rw[h] at z;exact absurd z (show "list"≠"" by decide)
theorem nO {H:Hp} {a:Addr} {xs:List V} (h:H a=some (.tup xs)):Kn H (.ref a):=λz=>by
 have z:rH (H a)="":=z
 rw[h] at z;exact absurd z (show "tuple"≠"" by decide)
theorem JM {CX:CXT} {P:Program} {w:World} {K:PySem.W.Frag} {mg:Str->Option Value} {base:Heap} {N:List Str} {qual:Str} {scope:Scope} {f:Addr} {cd:Value} {A:Around} {outer:List Env} {s:Shared} {H:Hp} {E:XK}:
 (gG CX P w K mg base N qual scope f cd A outer s H E).K=K:=rfl
noncomputable def xI:V->Bool
 |.int _=>true
 |_=>false
noncomputable def within (x:V) (l h:Int):Bool:=match x with
 |.int i=>decide (l<=i)&&decide (i<=h)
 |_=>false
end L2
namespace L2
open PySem PySem.Spec PyProof.Rows
inductive IY (t u:TS):Type where
 |mk:IY t u
noncomputable def MS (t u:TS) (_:IY t u):TS:=λD σ H=>∃M:St->Hp->Prop,t {D with nx:=M} σ H/\∀σ' H',M σ' H'->u D σ' H'
theorem zF {X:Cx} {st:Stmt} {rest:List Stmt} {t u:TS} (h1:PS X st t) (h2:oI X rest u):oI X (st::rest) (MS t u .mk):=by
 intro pins s σ H D I h
 obtain⟨M,h,hM⟩:=h
 refine wpAny_execs_cons (mF (h1 pins s σ H {D with nx:=M} I h) λf s1 q=>?_)
 cases f with
 |next=>
  obtain⟨σ',H',I',q⟩:=q
  exact h2 pins s1 σ' H' D I' (hM σ' H' q)
 |ret v=>exact q
 |brk=>exact q
 |cont=>exact q
noncomputable def NS:Option HO->Option (List V)
 |some (.lst xs)=>some xs
 |some (.frz _ (.lst xs))=>some xs
 |_=>none
noncomputable def OS:Option HO->Option (List V)
 |some (.tup xs)=>some xs
 |some (.frz _ (.tup xs))=>some xs
 |_=>none
theorem t6 {xs:List V}:NS (some (.lst xs))=some xs:=rfl
theorem u6 {xs:List V}:OS (some (.tup xs))=some xs:=rfl
theorem K6 {i j:Int}:NJ (.int i) (.int j)=true:=rfl
theorem M6 {i j:Bool}:NJ (.bl i) (.bl j)=true:=rfl
theorem N6 {i j:Str}:NJ (.str i) (.str j)=true:=rfl
theorem QS:Int.natAbs 10=10:=rfl
theorem sF {H:Hp}:vE H H:=λ_ _ h=>h
theorem WF {H H':Hp} {p:Addr} {o:HO} (s:vE H H') (h:H' p=none):vE H (upd H' p o):=λb u e=>by
 have q:=s b u e
 rw[AE (NF q h)]
 exact q
end L2
namespace L2
open PySem PySem.Spec PyProof.Rows
end L2
namespace L2
open PySem PySem.Spec PyProof.Rows
inductive uJ (g:TG) (tb:TS):Type where
 |mk:uJ g tb
noncomputable def JK (g:TG) (tb:TS) (_:uJ g tb) (J:It):TS:=λD σ H=>∃W:Nat->Nat->St->Hp->Prop,(∃m,W 0 m σ H)/\∀i m σ H,W i m σ H->
 (J.stop i H/\D.nx σ H)\/(J.go i H/\∃N:St->Hp->Prop,(∀σ' H',N σ' H'->∃m',m' < m/\W (i+1) m' σ' H')/\∀x H',J.yld i H x H'->g x σ H' λσ2 H2=>tb {D with nx:=N,ct:=N,bk:=D.nx} σ2 H2)
noncomputable def rL (wi:TI) (g:TG) (tb:TS) (h:uJ g tb):TS:=λD σ H=>wi σ H λJ H1=>JK g tb h J D σ H1
theorem GJ {X:Cx} {tg iter:Expr} {body:List Stmt} {wi:TI} {g:TG} {tb:TS} {pos:Pos} (hp:PassesOwn (model X.prog X.w) X.A X.env X.xe) (hc:X.calm=true) (hi:PI X tg iter wi) (hg:PG X tg g) (hb:oI X body tb)
 (hs:∀x,foldedSetIterable iter X.env x=pure x:=by intro _;rfl):PS X (.For tg iter body [] pos) (rL wi g tb .mk):=vM hp hc hi hg hb hs
theorem oO {lo:Int} {n:Nat} {g:TG} {tb:TS} {h:uJ g tb} {D:JG} {σ:St} {H:Hp} (Pv:Nat->St->Hp->Prop) (h0:Pv 0 σ H)
 (hs:∀i σ H,i < n->Pv i σ H->g (.int (lo+i)) σ H λσ2 H2=>tb {D with nx:=Pv (i+1),ct:=Pv (i+1),bk:=D.nx} σ2 H2) (hd:∀σ H,Pv n σ H->D.nx σ H):JK g tb h (dL lo n) D σ H:=N4 Pv h0 hs hd
theorem rP {K:PySem.W.Frag} {a:Addr} {xs:List V} {g:TG} {tb:TS} {h:uJ g tb} {D:JG} {σ:St} {H:Hp} (Pv:Nat->St->Hp->Prop) (h0:Pv 0 σ H) (hl:∀i σ H,i<=xs.length->Pv i σ H->xE K H a xs)
 (hs:∀i x σ H,xs[i]?=some x->Pv i σ H->g x σ H λσ2 H2=>tb {D with nx:=Pv (i+1),ct:=Pv (i+1),bk:=D.nx} σ2 H2) (hd:∀σ H,Pv xs.length σ H->D.nx σ H):JK g tb h (cL K a) D σ H:=M4 Pv h0 hl hs hd
noncomputable def pw (n:Int):Int:=2 ^ n.toNat
end L2
namespace L2
open PySem PySem.Spec PyProof.Rows
end L2
namespace L2
open PySem PySem.Spec PyProof.Rows
theorem fR {H:Hp} {x dx:Addr} {o:HO} (hx:H x=none) (hd:H dx=none) (hne:dx≠x):vE H (upd (upd H dx (.own x)) x o):=
 WF (WF sF hd) (by rw[AE (Ne.symm hne)];exact hx)
end L2
namespace L2
open PySem PySem.Spec PyProof.Rows
end L2
namespace L2
open PySem PySem.Spec PyProof.Rows
end L2
namespace L2
open PySem PySem.Spec PyProof.Rows
theorem JY {H:Hp} {a:Addr} {xs:List V} (h:H a=some (.tup xs)):YI "tuple" H (.ref a)=true:=by
 unfold YI
 rw[show kd H (.ref a)=rH (H a) from rfl,h];rfl
theorem KY {H:Hp} {a:Addr} {xs:List V} (h:H a=some (.lst xs)):YI "list" H (.ref a)=true:=by
 unfold YI
 rw[show kd H (.ref a)=rH (H a) from rfl,h];rfl
end L2
namespace L2
open PySem PySem.Spec PyProof.Rows
section
variable {X:Cx} {pins pins2:List (Addr×Obj)} {σ:St} {H:Hp} {s:Shared} {E':Value->Shared->Prop}
end
end L2
namespace PySem.W
open PySem PySem.Spec PySem.Calls PyProof.Rows
open Builtin Builtin.ObjectAttr Builtin.Getset_descriptor
noncomputable def sL (e C:Addr) (h:Heap):Prop:=∃o,h.get? e=some o/\o.cls=.ref C
section
variable {K:Frag} {e C:Addr}
theorem sL.ty {M:Model} {h:Heap} (p:sL e C h):Looks M h (typeOf (.ref e)) (.ref C):=by
 obtain⟨o,h1,h2⟩:=p
 exact h2 ▸ (Looks.ld h1).andThen .now
variable {prog:Program} {w:World} {A:Around} {E:Value->Shared->Prop} {s:Shared}
end
end PySem.W
namespace L2
open PySem PySem.Spec PyProof.Rows
noncomputable def sP:V->Value
 |.ref a=>.ref a
 |.ty n=>.type n
 |_=>.none
theorem O6 {a:Addr}:sP (.ref a)=.ref a:=rfl
theorem P6 {n:String}:sP (.ty n)=.type n:=rfl
end L2
namespace L2
open PySem PySem.Spec PyProof.Rows
inductive Dv where
 |leaf (v:V)
 |seq (t:Bool) (ds:List Dv)
mutual
noncomputable def EF (K:PySem.W.Frag) (H:Hp):Dv->V->Prop
 |.leaf v,x=>x=v/\YF v=true
 |.seq t ds,x=>∃a xs,x=.ref a/\(if t=true then oF K H a xs else xE K H a xs)/\JE K H ds xs
noncomputable def JE (K:PySem.W.Frag) (H:Hp):List Dv->List V->Prop
 |[],xs=>xs=[]
 |d::ds,xs=>∃x r,xs=x::r/\EF K H d x/\JE K H ds r
end
mutual
noncomputable def vG:Dv->Dv->Bool
 |.leaf _,.leaf _=>true
 |.seq t ds,.seq u es=>t == u&&SE ds es
 |_,_=>false
noncomputable def SE:List Dv->List Dv->Bool
 |d::ds,e::es=>vG d e&&SE ds es
 |_,_=>true
end
mutual
noncomputable def tG:Dv->Dv->Bool
 |.leaf v,.leaf w=>kJ v w
 |.seq _ ds,.seq _ es=>VE ds es
 |_,_=>false
noncomputable def VE:List Dv->List Dv->Bool
 |[],[]=>true
 |d::ds,e::es=>tG d e&&VE ds es
 |_,_=>false
end
mutual
noncomputable def vF:Dv->Nat
 |.leaf _=>0
 |.seq _ ds=>GE ds+1
noncomputable def GE:List Dv->Nat
 |[]=>0
 |d::ds=>max (vF d) (GE ds)
end
theorem JE.length {K:PySem.W.Frag} {H:Hp}:∀{ds:List Dv} {xs:List V},JE K H ds xs->ds.length=xs.length
 |[],xs,h=>by unfold JE at h;subst h;rfl
 |d::ds,xs,h=>by
  unfold JE at h
  obtain⟨x,r,rfl,_,h⟩:=h
  simp[h.length]
theorem JE.get {K:PySem.W.Frag} {H:Hp}:∀{ds:List Dv} {xs:List V} {j:Nat} {d:Dv},JE K H ds xs->ds[j]?=some d->∃x,xs[j]?=some x/\EF K H d x
 |[],xs,j,d,h,e=>by simp at e
 |d'::ds,xs,0,d,h,e=>by
  unfold JE at h
  obtain⟨x,r,rfl,hx,h⟩:=h
  simp at e;subst e
  exact⟨x,rfl,hx⟩
 |d'::ds,xs,j+1,d,h,e=>by
  unfold JE at h
  obtain⟨x,r,rfl,hx,h⟩:=h
  obtain⟨y,e1,e2⟩:=JE.get (j:=j) h (by simpa using e)
  exact⟨y,by simpa using e1,e2⟩
theorem Q6 (n:Nat) (f:Nat->Bool):(List.range (n+1)).all f=(f 0&&(List.range n).all λj=>f (j+1)):=by
 rw[List.range_succ_eq_map,ZD,List.all_map];rfl
theorem SS:∀(ds es:List Dv),VE ds es=(decide (ds.length=es.length)&&(List.range (min ds.length es.length)).all λj=>tG (ds.getD j (.leaf .non)) (es.getD j (.leaf .non)))
 |[],[]=>by simp[VE]
 |[],e::es=>by simp[VE]
 |d::ds,[]=>by simp[VE]
 |d::ds,e::es=>by
  have ih:=SS ds es
  rw[VE,ih]
  have hm:min (d::ds).length (e::es).length=min ds.length es.length+1:=by simp[Nat.succ_min_succ]
  rw[hm,Q6]
  simp only[WA,Nat.add_right_cancel_iff,List.getD_cons_zero,List.getD_cons_succ]
  cases tG d e<;>cases decide (ds.length=es.length)<;>simp
theorem R6 {v:V} (h:YF v=true):kJ v v=true:=by
 cases v<;>first|rfl|(simp[kJ];done)|exact absurd h (by simp[YF])
mutual
theorem LY {X:Cx} {pins:List (Addr×Obj)} {σ:St} {H:Hp} {s:Shared} (I:wE X pins σ H s):∀(d e:Dv) (x:V),vG d e=true->EF X.K H d x->EF X.K H e x->tG d e=true
 |.leaf a,.leaf b,x,_,hx,hy=>by
  unfold EF at hx hy
  obtain⟨rfl,fx⟩:=hx
  obtain⟨rfl,fy⟩:=hy
  rw[tG]
  exact R6 fx
 |.leaf a,.seq t es,_,h,_,_=>by simp[vG] at h
 |.seq t ds,.leaf b,_,h,_,_=>by simp[vG] at h
 |.seq t ds,.seq t' es,x,h,hx,hy=>by
  rw[vG,kB] at h
  have ht:=YB.mp h.1
  subst ht
  unfold EF at hx hy
  obtain⟨a,xs,rfl,hsx,hL⟩:=hx
  obtain⟨b,ys,e,hsy,hM⟩:=hy
  cases e
  rw[tG]
  have exy:xs=ys:=by
   cases t with
   |true=>exact I.tuple_inj (by simpa using hsx) (by simpa using hsy)
   |false=>exact I.list_inj (by simpa using hsx) (by simpa using hsy)
  subst exy
  exact MY I ds es xs h.2 hL hM
theorem MY {X:Cx} {pins:List (Addr×Obj)} {σ:St} {H:Hp} {s:Shared} (I:wE X pins σ H s):∀(ds es:List Dv) (xs:List V),SE ds es=true->JE X.K H ds xs->JE X.K H es xs->VE ds es=true
 |[],[],_,_,_,_=>by rw[VE]
 |[],e::es,xs,_,hx,hy=>by
  unfold JE at hx hy
  obtain⟨x,r,e1,_⟩:=hy
  rw[hx] at e1;cases e1
 |d::ds,[],xs,_,hx,hy=>by
  unfold JE at hx hy
  obtain⟨x,r,e1,_⟩:=hx
  rw[hy] at e1;cases e1
 |d::ds,e::es,xs,h,hx,hy=>by
  rw[SE,kB] at h
  unfold JE at hx hy
  obtain⟨x,r,rfl,hx,hxr⟩:=hx
  obtain⟨y,r',e1,hy,hyr⟩:=hy
  cases e1
  rw[VE,LY I d e x h.1 hx hy,MY I ds es r h.2 hxr hyr]
  rfl
end
theorem NY {X:Cx} {pins:List (Addr×Obj)} {σ:St} {H:Hp} {s:Shared} (I:wE X pins σ H s) {A:Around} {t:Bool} {ds es:List Dv} {a b:Addr} {xs ys:List V} (hu:A.units < cLine)
  (hsx:if t=true then oF X.K H a xs else xE X.K H a xs) (hsy:if t=true then oF X.K H b ys else xE X.K H b ys) (l1:ds.length=xs.length) (l2:es.length=ys.length)
  (ih:∀(j:Nat) (u v:Value) (us vs:List Value),BE xs us->BE ys vs->us[j]?=some u->vs[j]?=some v->SeqAt.EqAt A.in1 s u v (tG (ds.getD j (.leaf .non)) (es.getD j (.leaf .non)))):
  SeqAt.RcAt A s (.ref a) (.ref b) (VE ds es):=by
 rw[SS]
 cases t with
 |false=>
  obtain⟨its,rv,pl,_⟩:=I.list (show xE X.K H a xs by simpa using hsx)
  obtain⟨its2,rv2,pl2,_⟩:=I.list (show xE X.K H b ys by simpa using hsy)
  have n1:=rv.length
  have n2:=rv2.length
  by_cases hl:ds.length=es.length
  ·have q:=SeqAt.RcAt.lists (e:=λj=>tG (ds.getD j (.leaf .non)) (es.getD j (.leaf .non))) pl.isList pl2.isList (by simp;omega) (by omega:A.units < cLine) (λj h1 h2=>by
    have h1:j < its.length:=by simpa using h1
    have h2:j < its2.length:=by simpa using h2
    have e:=ih j (its[j]) (its2[j]) its its2 rv rv2 (by simp[h1]) (by simp[h2])
    simpa using e)
   rw[AA hl,Bool.true_and]
   have em:min ds.length es.length=its.toArray.size:=by simp;omega
   rw[em]
   exact q
  ·have q:=SeqAt.RcAt.lists_lengths (A:=A) pl.isList pl2.isList (by simp;omega) (by omega:A.units < cLine)
   rw[vA hl,mE]
   exact q
 |true=>
  obtain⟨its,rv,pl,_⟩:=I.tuple (show oF X.K H a xs by simpa using hsx)
  obtain⟨its2,rv2,pl2,_⟩:=I.tuple (show oF X.K H b ys by simpa using hsy)
  have n1:=rv.length
  have n2:=rv2.length
  have q:=SeqAt.RcAt.tuples (e:=λj=>tG (ds.getD j (.leaf .non)) (es.getD j (.leaf .non))) (show s.heap.IsTuple a its.toArray from pl) (show s.heap.IsTuple b its2.toArray from pl2) (by omega:A.units < cLine) (λj h1 h2=>by
    have h1:j < its.length:=by simpa using h1
    have h2:j < its2.length:=by simpa using h2
    have e:=ih j (its[j]) (its2[j]) its its2 rv rv2 (by simp[h1]) (by simp[h2])
    simpa using e)
  have em:min its.toArray.size its2.toArray.size=min ds.length es.length:=by simp;omega
  have eb:(its.toArray.size == its2.toArray.size)=decide (ds.length=es.length):=by
   rw[MB];simp;omega
  rw[em,eb,Bool.and_comm] at q
  exact q
mutual
theorem V6 {X:Cx} {pins:List (Addr×Obj)} {σ:St} {H:Hp} {s:Shared} (I:wE X pins σ H s):∀(d e:Dv) (A:Around) (x y:V) (u v:Value),A.units+vF d < cLine->vG d e=true->EF X.K H d x->EF X.K H e y->FE x u->FE y v->SeqAt.EqAt A s u v (tG d e)
 |.leaf a,.leaf b,A,x,y,u,v,_,_,hx,hy,rx,ry=>by
  unfold EF at hx hy
  obtain⟨rfl,fx⟩:=hx
  obtain⟨rfl,fy⟩:=hy
  rw[tG]
  exact sY rx ry fx fy
 |.leaf a,.seq t es,A,x,y,u,v,_,h,_,_,_,_=>by simp[vG] at h
 |.seq t ds,.leaf b,A,x,y,u,v,_,h,_,_,_,_=>by simp[vG] at h
 |.seq t ds,.seq t' es,A,x,y,u,v,hu,h,hx,hy,rx,ry=>by
  have h0:=h
  rw[vG,kB] at h
  have ht:=YB.mp h.1
  subst ht
  have hx0:=hx
  have hy0:=hy
  unfold EF at hx hy
  obtain⟨a,xs,rfl,hsx,hL⟩:=hx
  obtain⟨b,ys,rfl,hsy,hM⟩:=hy
  cases rx
  cases ry
  by_cases hab:a=b
  ·subst hab
   rw[LY I _ _ _ h0 hx0 hy0]
   exact SeqAt.EqAt.same _
  ·rw[vF] at hu
   have hu1:A.in1.units+GE ds < cLine:=by show A.units+1+GE ds < cLine;omega
   have ih:=gR I ds es A.in1 xs ys hu1 h.2 hL hM
   rw[tG]
   exact SeqAt.EqAt.of_refs hab (NY I (by omega) hsx hsy hL.length hM.length ih)
theorem gR {X:Cx} {pins:List (Addr×Obj)} {σ:St} {H:Hp} {s:Shared} (I:wE X pins σ H s):∀(ds es:List Dv) (A:Around) (xs ys:List V),A.units+GE ds < cLine->SE ds es=true->JE X.K H ds xs->JE X.K H es ys->
  ∀(j:Nat) (u v:Value) (us vs:List Value),BE xs us->BE ys vs->us[j]?=some u->vs[j]?=some v->SeqAt.EqAt A s u v (tG (ds.getD j (.leaf .non)) (es.getD j (.leaf .non)))
 |[],es,A,xs,ys,_,_,hx,hy,j,u,v,us,vs,rx,ry,e1,e2=>by
  unfold JE at hx
  subst hx
  cases rx
  simp at e1
 |d::ds,[],A,xs,ys,_,_,hx,hy,j,u,v,us,vs,rx,ry,e1,e2=>by
  unfold JE at hy
  subst hy
  cases ry
  simp at e2
 |d::ds,e::es,A,xs,ys,hu,h,hx,hy,j,u,v,us,vs,rx,ry,e1,e2=>by
  rw[SE,kB] at h
  rw[GE] at hu
  unfold JE at hx hy
  obtain⟨x,r,rfl,hx,hxr⟩:=hx
  obtain⟨y,r',rfl,hy,hyr⟩:=hy
  cases rx with
  |cons p1 p2=>
   cases ry with
   |cons q1 q2=>
    cases j with
    |zero=>
     simp at e1 e2
     subst e1 e2
     exact V6 I d e A x y _ _ (by omega) h.1 hx hy p1 q1
    |succ k=>
     have z:=gR I ds es A r r' (by omega) h.2 hxr hyr k u v _ _ p2 q2 (by simpa using e1) (by simpa using e2)
     simpa using z
end
theorem pO {A:Around} {k:Nat} (hr:CF k A):A.units+4+2 < cLine:=by have:=hr.units;omega
noncomputable def KK (K:PySem.W.Frag) (n:Nat):R2:=λx y H Q=>∃t ds es,EF K H (.seq t ds) x/\EF K H (.seq t es) y/\SE ds es=true/\GE ds<=n/\Q (.bl (VE ds es)) H
noncomputable def tP (K:PySem.W.Frag) (n:Nat):R2:=λx y H Q=>∃t ds es,EF K H (.seq t ds) x/\EF K H (.seq t es) y/\SE ds es=true/\GE ds<=n/\Q (.bl (!VE ds es)) H
theorem uP {X:Cx} {pins:List (Addr×Obj)} {σ:St} {H:Hp} {s:Shared} (I:wE X pins σ H s) {A:Around} {n:Nat} (hu:A.units+n+2 < cLine) {t:Bool} {ds es:List Dv} {x y:V} {u v:Value} (hx:EF X.K H (.seq t ds) x) (hy:EF X.K H (.seq t es) y) (ha:SE ds es=true) (hd:GE ds<=n)
  (rx:FE x u) (ry:FE y v):SeqAt.RcAt A s u v (VE ds es):=by
 unfold EF at hx hy
 obtain⟨a,xs,rfl,hsx,hL⟩:=hx
 obtain⟨b,ys,rfl,hsy,hM⟩:=hy
 cases rx
 cases ry
 exact NY I (by omega) hsx hsy hL.length hM.length (gR I ds es A.in1 xs ys (by show A.units+1+GE ds < cLine;omega) ha hL hM)
theorem OY {X:Cx} {n:Nat} (hu:X.A.units+n+2 < cLine):fH X (compareOp .Eq) (KK X.K n):=by
 intro pins s σ H x y v u Q I rx ry h
 obtain⟨t,ds,es,hx,hy,ha,hd,q⟩:=h
 exact uP I hu hx hy ha hd rx ry X.prog X.w X.xe _ ⟨.bl _,H,I,rfl,q⟩
theorem X6 {X:Cx} {pins:List (Addr×Obj)} {σ:St} {H:Hp} {s:Shared} (I:wE X pins σ H s) {A:Around} {t:Bool} {ds es:List Dv} {a b:Addr} {xs ys:List V} (hu:A.units < cLine)
  (hsx:if t=true then oF X.K H a xs else xE X.K H a xs) (hsy:if t=true then oF X.K H b ys else xE X.K H b ys) (l1:ds.length=xs.length) (l2:es.length=ys.length)
  (ih:∀(j:Nat) (u v:Value) (us vs:List Value),BE xs us->BE ys vs->us[j]?=some u->vs[j]?=some v->SeqAt.EqAt A.in1 s u v (tG (ds.getD j (.leaf .non)) (es.getD j (.leaf .non)))):
  SeqAt.RcNeAt A s (.ref a) (.ref b) (!VE ds es):=by
 rw[SS]
 cases t with
 |false=>
  obtain⟨its,rv,pl,_⟩:=I.list (show xE X.K H a xs by simpa using hsx)
  obtain⟨its2,rv2,pl2,_⟩:=I.list (show xE X.K H b ys by simpa using hsy)
  have n1:=rv.length
  have n2:=rv2.length
  by_cases hl:ds.length=es.length
  ·have q:=SeqAt.RcNeAt.lists (e:=λj=>tG (ds.getD j (.leaf .non)) (es.getD j (.leaf .non))) pl.isList pl2.isList (by simp;omega) (by omega:A.units < cLine) (λj h1 h2=>by
    have h1:j < its.length:=by simpa using h1
    have h2:j < its2.length:=by simpa using h2
    have e:=ih j (its[j]) (its2[j]) its its2 rv rv2 (by simp[h1]) (by simp[h2])
    simpa using e)
   rw[AA hl,Bool.true_and]
   have em:min ds.length es.length=its.toArray.size:=by simp;omega
   rw[em]
   exact q
  ·have q:=SeqAt.RcNeAt.lists_lengths (A:=A) pl.isList pl2.isList (by simp;omega) (by omega:A.units < cLine)
   rw[vA hl,mE]
   exact q
 |true=>
  obtain⟨its,rv,pl,_⟩:=I.tuple (show oF X.K H a xs by simpa using hsx)
  obtain⟨its2,rv2,pl2,_⟩:=I.tuple (show oF X.K H b ys by simpa using hsy)
  have n1:=rv.length
  have n2:=rv2.length
  have q:=SeqAt.RcNeAt.tuples (e:=λj=>tG (ds.getD j (.leaf .non)) (es.getD j (.leaf .non))) (show s.heap.IsTuple a its.toArray from pl) (show s.heap.IsTuple b its2.toArray from pl2) (by omega:A.units < cLine) (λj h1 h2=>by
    have h1:j < its.length:=by simpa using h1
    have h2:j < its2.length:=by simpa using h2
    have e:=ih j (its[j]) (its2[j]) its its2 rv rv2 (by simp[h1]) (by simp[h2])
    simpa using e)
  have em:min its.toArray.size its2.toArray.size=min ds.length es.length:=by simp;omega
  have eb:(its.toArray.size == its2.toArray.size)=decide (ds.length=es.length):=by
   rw[MB];simp;omega
  rw[em,eb,Bool.and_comm] at q
  exact q
theorem KM {X:Cx} {n:Nat} (hu:X.A.units+n+2 < cLine):fH X (compareOp .NotEq) (tP X.K n):=by
 intro pins s σ H x y v u Q I rx ry h
 obtain⟨t,ds,es,hx,hy,ha,hd,q⟩:=h
 unfold EF at hx hy
 obtain⟨a,xs,rfl,hsx,hL⟩:=hx
 obtain⟨b,ys,rfl,hsy,hM⟩:=hy
 cases rx
 cases ry
 exact X6 I (by omega) hsx hsy hL.length hM.length (gR I ds es X.A.in1 xs ys (by show X.A.units+1+GE ds < cLine;omega) ha hL hM) X.prog X.w X.xe _ ⟨.bl _,H,I,rfl,q⟩
noncomputable def uF (ns:List Int):List Dv:=ns.map λi=>.leaf (.int i)
theorem PY {K:PySem.W.Frag} {H:Hp}:∀(ns:List Int),JE K H (uF ns) (ns.map V.int)
 |[]=>by unfold uF JE;rfl
 |n::ns=>by
  show JE K H (.leaf (.int n)::uF ns) (.int n::ns.map V.int)
  unfold JE
  exact⟨_,_,rfl,by unfold EF;exact⟨rfl,rfl⟩,PY ns⟩
theorem QY {K:PySem.W.Frag} {H:Hp} {a:Addr} {ns:List Int} (h:xE K H a (ns.map V.int)):EF K H (.seq false (uF ns)) (.ref a):=by
 unfold EF
 exact⟨a,_,rfl,by simpa using h,PY ns⟩
theorem RY:∀(ns ms:List Int),SE (uF ns) (uF ms)=true
 |[],_=>by unfold uF;simp[SE]
 |_::_,[]=>by unfold uF;simp[SE]
 |n::ns,m::ms=>by
  show SE (.leaf (.int n)::uF ns) (.leaf (.int m)::uF ms)=true
  rw[SE,vG,RY ns ms];rfl
theorem SY:∀(ns:List Int),GE (uF ns)=0
 |[]=>by unfold uF;simp[GE]
 |n::ns=>by
  show GE (.leaf (.int n)::uF ns)=0
  rw[GE,vF,SY ns];rfl
theorem TY:∀(ns ms:List Int),VE (uF ns) (uF ms)=decide (ns=ms)
 |[],[]=>by unfold uF;simp[VE]
 |[],_::_=>by unfold uF;simp[VE]
 |_::_,[]=>by unfold uF;simp[VE]
 |n::ns,m::ms=>by
  show VE (.leaf (.int n)::uF ns) (.leaf (.int m)::uF ms)=_
  rw[VE,tG,TY ns ms]
  show ((n == m)&&decide (ns=ms))=_
  rw[MB];simp
end L2
namespace L2
open PySem PySem.Spec PyProof.Rows
noncomputable def nH (sc:Scope) (env:Env) (x:Str) (fs:List Str):Bool:=
 sc.kind == .function&&sc.names.all (λy=>y.2 != .cell&&(y.2 != .local || sc.names.lookup y.1 == some .local)&&(y.2 != .free || env.kindOf y.1 == some .cell || env.kindOf y.1 == some .free))&&
  sc.names.lookup x == some .local&&fs.all (λf=>sc.names.lookup f == some .free)
structure OG (sc:Scope) (env:Env) (x:Str) (fs:List Str):Prop where
 kind:sc.kind=.function
 nocell:∀y∈sc.names,y.2≠.cell
 own:∀y∈sc.names,y.2=.local->sc.names.lookup y.1=some .local
 fr:∀y∈sc.names,y.2=.free->env.kindOf y.1=some .cell\/env.kindOf y.1=some .free
 x:sc.names.lookup x=some .local
 fs:∀f∈fs,sc.names.lookup f=some .free
theorem OG.of {sc:Scope} {env:Env} {x:Str} {fs:List Str} (h:nH sc env x fs=true):OG sc env x fs:=by
 unfold nH at h
 simp only[kB,YB,List.all_eq_true,Bool.or_eq_true,bne_iff_ne,ne_eq] at h
 obtain⟨⟨⟨h1,h2⟩,h3⟩,h4⟩:=h
 refine⟨h1,λy hy=>(h2 y hy).1.1,λy hy e=>?_,λy hy e=>?_,h3,h4⟩
 ·rcases (h2 y hy).1.2 with z|z
  ·exact absurd e z
  ·exact z
 ·rcases (h2 y hy).2 with (z|z)|z
  ·exact absurd e z
  ·exact .inl z
  ·exact .inr z
theorem US {env:Env}:∀(names:List (Str×NameKind)) (acc:List (Str×Addr)),(∀n,(n,NameKind.free)∈names->∃c,env.cells.lookup n=some c)->
  ∃cl,(forIn names acc λy r=>(do if (y.2 == NameKind.free)=true then do let c<-cellOf env y.1;pure (ForInStep.yield ((y.1,c)::r)) else pure (ForInStep.yield r):Sem (ForInStep (List (Str×Addr)))))=pure cl/\
   (∀n c,cl.lookup n=some c->acc.lookup n=some c\/env.cells.lookup n=some c)/\∀n,(∃c,acc.lookup n=some c)\/(n,NameKind.free)∈names->∃c,cl.lookup n=some c
 |[],acc,_=>⟨acc,rfl,λ_ _ e=>.inl e,λn h=>h.elim id λz=>nomatch z⟩
 |(n,k)::r,acc,h=>by
  have hr:∀m,(m,NameKind.free)∈r->∃c,env.cells.lookup m=some c:=λm hm=>h m (jA _ hm)
  by_cases hk:k=.free
  ·subst hk
   obtain⟨c,hc⟩:=h n wA
   obtain⟨cl,e,h1,h2⟩:=US r ((n,c)::acc) hr
   refine⟨cl,?_,λm c' hm=>?_,λm hm=>h2 m ?_⟩
   ·rw[jE]
    simp only[beq_self_eq_true,RC,cellOf,hc,pure_bind]
    exact e
   ·rcases h1 m c' hm with z|z
    ·rw[iC] at z
     cases q:m == n with
     |true=>
      rw[q] at z
      cases z
      rw[YB.mp q]
      exact .inr hc
     |false=>rw[q] at z;exact .inl z
    ·exact .inr z
   ·rw[iC]
    rcases hm with ⟨c',z⟩|hm
    ·cases q:m == n with
     |true=>exact .inl ⟨c,rfl⟩
     |false=>exact .inl ⟨c',z⟩
    ·rcases xA.mp hm with z|z
     ·cases z
      rw[beq_self_eq_true]
      exact .inl ⟨c,rfl⟩
     ·exact .inr z
  ·obtain⟨cl,e,h1,h2⟩:=US r acc hr
   refine⟨cl,?_,h1,λm hm=>h2 m ?_⟩
   ·rw[jE]
    have hb:(k == NameKind.free)=false:=by simpa using hk
    simp only[hb,QA,HB,pure_bind]
    exact e
   ·rcases hm with z|hm
    ·exact .inl z
    ·rcases xA.mp hm with z|z
     ·cases z;exact absurd rfl hk
     ·exact .inr z
theorem Y6 {env:Env} {sc:Scope} (h:∀n,(n,NameKind.free)∈sc.names->∃c,env.cells.lookup n=some c):
  ∃cl,closureFor sc env=pure cl/\(∀n c,cl.lookup n=some c->env.cells.lookup n=some c)/\∀n,(n,NameKind.free)∈sc.names->∃c,cl.lookup n=some c:=by
 obtain⟨cl,e,h1,h2⟩:=US sc.names [] h
 refine⟨cl,?_,λn c z=>(h1 n c z).elim (λq=>nomatch q) id,λn hn=>h2 n (.inr hn)⟩
 unfold closureFor
 simp only[bind_pure]
 exact e
theorem VS {env:Env}:∀{names:List (Str×NameKind)} {x:Str} {k:NameKind},(names.map λ(n,k)=>if (k == NameKind.free&&env.scope.kind == .function&&env.kindOf n == some .cell) then (n,NameKind.cell) else (n,k)).lookup x=some k->
  k=.cell\/k=.free->names.lookup x=some .free\/names.lookup x=some .cell
 |[],_,_,h,_=>by simp at h
 |(n,k0)::r,x,k,h,hk=>by
  have ih:=@VS env r x k
  have h:List.lookup x ((if (k0 == NameKind.free&&env.scope.kind == .function&&env.kindOf n == some .cell)=true then (n,NameKind.cell) else (n,k0))::(r.map λ(n,k)=>if (k == NameKind.free&&env.scope.kind == .function&&env.kindOf n == some .cell) then (n,NameKind.cell) else (n,k)))=some k:=h
  by_cases hc:(k0 == NameKind.free&&env.scope.kind == .function&&env.kindOf n == some .cell)=true
  ·rw[iA hc] at h
   simp only[iC] at h ⊢
   cases hx:x == n with
   |true=>
    simp only[kB,YB] at hc
    rw[hc.1.1]
    exact .inl rfl
   |false=>rw[hx] at h;exact ih h hk
  ·rw[fA hc] at h
   simp only[iC] at h ⊢
   cases hx:x == n with
   |true=>
    rw[hx] at h
    cases h
    rcases hk with rfl|rfl
    ·exact .inr rfl
    ·exact .inl rfl
   |false=>rw[hx] at h;exact ih h hk
theorem UY {env:Env}:∀{names:List (Str×NameKind)} {x:Str},names.lookup x=some .free->
  (names.map λ(n,k)=>if (k == NameKind.free&&env.scope.kind == .function&&env.kindOf n == some .cell) then (n,NameKind.cell) else (n,k)).lookup x=some .cell\/(names.map λ(n,k)=>if (k == NameKind.free&&env.scope.kind == .function&&env.kindOf n == some .cell) then (n,NameKind.cell) else (n,k)).lookup x=some .free
 |[],_,h=>by simp at h
 |(n,k0)::r,x,h=>by
  have ih:=@UY env r x
  show List.lookup x ((if (k0 == NameKind.free&&env.scope.kind == .function&&env.kindOf n == some .cell)=true then (n,NameKind.cell) else (n,k0))::_)=_\/List.lookup x ((if (k0 == NameKind.free&&env.scope.kind == .function&&env.kindOf n == some .cell)=true then (n,NameKind.cell) else (n,k0))::_)=_
  simp only[iC] at h
  by_cases hc:(k0 == NameKind.free&&env.scope.kind == .function&&env.kindOf n == some .cell)=true
  ·rw[iA hc]
   simp only[iC]
   cases hx:x == n with
   |true=>exact .inl rfl
   |false=>rw[hx] at h;exact ih h
  ·rw[fA hc]
   simp only[iC]
   cases hx:x == n with
   |true=>rw[hx] at h;exact .inr h
   |false=>rw[hx] at h;exact ih h
noncomputable def kF (X:Cx) (scope:Scope) (cl:List (Str×Addr)) (C:Addr) (N:List Str) (s₀:Shared) (H₀:Hp) (fp:List Addr) (xe:Value->Shared->Prop):Cx:=
 {X with N:=N,s₀:=s₀,H₀:=H₀,env:=compEnvC scope cl C X.env,outer:=X.stack,stack:=X.stack,ex:=fp,fn:=λ_=>false,pn:=[],xe:=xe}
theorem tL {X:Cx}:XW X (λ_ _ _=>False):=λ_ _ _ _ _ _ _ _ _ _ _ _ _ _ _ h=>h.elim
inductive ZI (g:TG) (tt:TT) (te:TE):Type where
 |mk:ZI g tt te
noncomputable def PF (X:Cx) (ifs:List Expr) (tt:TT):Prop:=
 ∀(pins:List (Addr×Obj)) (s:Shared) (σ:St) (H:Hp) (Q:Bool->Hp->Prop),wE X pins σ H s->tt σ H Q->
  wpAny (model X.prog X.w) X.A (forIn ifs true λc r=>if r=true then do let ok<-isTrue c X.env (eval c X.env);pure (ForInStep.yield ok) else pure (ForInStep.yield r)) (TP X pins σ Q) X.xe s
noncomputable def tYes:TT:=λ_ H Q=>Q true H
theorem wK {X:Cx}:PF X [] tYes:=λ_ _ _ H _ I h=>by
 simp only[List.forIn_nil]
 exact DA ⟨H,I,h⟩
theorem LM {X:Cx} {c:Expr} {tt:TT} (h:PT X c tt):PF X [c] tt:=λpins s σ H Q I hw=>wpAny_tests_one (h pins s σ H Q I hw)
noncomputable def vJ (g:TG) (tt:TT) (te:TE) (_:ZI g tt te) (J:It) (σ0:St) (D:Addr) (Q:Hp->Prop) (H:Hp):Prop:=
 ∃W:Nat->Nat->List V->St->Hp->Prop,(∃m,W 0 m [] σ0 (upd H D (.lst [])))/\∀i m ys σ H,W i m ys σ H->
  (J.stop i H/\Q H)\/(J.go i H/\∃N:List V->St->Hp->Prop,(∀ys σ H,N ys σ H->∃m',m' < m/\W (i+1) m' ys σ H)/\
   ∀y H',J.yld i H y H'->g y σ H' λσ2 H2=>tt σ2 H2 λb H2'=>if b=true then te σ2 H2' λv H3=>H3 D=some (.lst ys)/\ys.length < sizeLine/\N (ys++[v]) σ2 (upd H3 D (.lst (ys++[v]))) else N ys σ2 H2')
noncomputable def YJ (wi:TI) (ix:List Nat) (g:TG) (tt:TT) (te:TE) (h:ZI g tt te):TE:=λσ H Q=>wi σ H λJ H1=>∀D,H1 D=none->vJ g tt te h J (none::ix.map λi=>(σ[i]?).join) D (λH'=>Q (.ref D) H') H1
theorem LK {lo:Int} {n:Nat} {g:TG} {tt:TT} {te:TE} {h:ZI g tt te} {σ0:St} {D:Addr} {Q:Hp->Prop} {H:Hp} (Pv:Nat->List V->St->Hp->Prop) (h0:Pv 0 [] σ0 (upd H D (.lst [])))
  (hs:∀i ys σ H,i < n->Pv i ys σ H->g (.int (lo+i)) σ H λσ2 H2=>tt σ2 H2 λb H2'=>if b=true then te σ2 H2' λv H3=>H3 D=some (.lst ys)/\ys.length < sizeLine/\Pv (i+1) (ys++[v]) σ2 (upd H3 D (.lst (ys++[v]))) else Pv (i+1) ys σ2 H2') (hd:∀ys σ H,Pv n ys σ H->Q H):
  vJ g tt te h (dL lo n) σ0 D Q H:=by
 refine⟨λi m ys σ H=>i+m=n/\Pv i ys σ H,⟨n,UB n,h0⟩,λi m ys σ H ⟨e,p⟩=>?_⟩
 by_cases hi:i < n
 ·refine .inr ⟨hi,Pv (i+1),λys σ H q=>⟨m - 1,by omega,by omega,q⟩,?_⟩
  rintro y H' ⟨rfl,rfl⟩
  exact hs i ys σ H' hi p
 ·have e':i=n:=by omega
  subst e'
  exact .inl ⟨pA _,hd ys σ H p⟩
theorem MM {K:PySem.W.Frag} {a:Addr} {xs:List V} {g:TG} {tt:TT} {te:TE} {h:ZI g tt te} {σ0:St} {D:Addr} {Q:Hp->Prop} {H:Hp} (Pv:Nat->List V->St->Hp->Prop) (h0:Pv 0 [] σ0 (upd H D (.lst []))) (hl:∀i ys σ H,i<=xs.length->Pv i ys σ H->xE K H a xs)
  (hs:∀i x ys σ H,xs[i]?=some x->Pv i ys σ H->g x σ H λσ2 H2=>tt σ2 H2 λb H2'=>if b=true then te σ2 H2' λv H3=>H3 D=some (.lst ys)/\ys.length < sizeLine/\Pv (i+1) (ys++[v]) σ2 (upd H3 D (.lst (ys++[v]))) else Pv (i+1) ys σ2 H2') (hd:∀ys σ H,Pv xs.length ys σ H->Q H):
  vJ g tt te h (cL K a) σ0 D Q H:=by
 refine⟨λi m ys σ H=>i+m=xs.length/\Pv i ys σ H,⟨xs.length,UB _,h0⟩,λi m ys σ H ⟨e,p⟩=>?_⟩
 have hq:=hl i ys σ H (by omega) p
 by_cases hi:i < xs.length
 ·have ex:xs[i]?=some xs[i]:=bA hi
  refine .inr ⟨⟨xs,_,hq,ex⟩,Pv (i+1),λys σ H q=>⟨m - 1,by omega,by omega,q⟩,?_⟩
  rintro y H' ⟨rfl,hy⟩
  exact hs i y ys σ H' (hy xs hq) p
 ·have e':i=xs.length:=by omega
  subst e'
  exact .inl ⟨⟨xs,hq,pA _⟩,hd ys σ H p⟩
theorem Z6 {prog:Program} {w:World} {A:Around} {R:Result->Shared->Prop} {s:Shared} {elt target iter:Expr} {ifs:List Expr} {scope:Scope} {pos:Pos} {it acc:Value} {env:Env} (I:Nat->Shared->Prop)
  (turn:∀n s,I n s->wpAny (model prog w) A (pyNext it) (λr s₁=>match r with
   |none=>R (.ok .next) s₁
   |some v=>wpAny (model prog w) A (letOwnedTupleGo target it v) (λ_ s₁'=>wpAny (model prog w) A (assign target env v) (λ_ s₂=>
    wpAny (model prog w) A (forIn ifs true λc r=>if r=true then do let ok<-isTrue c env (eval c env);pure (ForInStep.yield ok) else pure (ForInStep.yield r)) (λok s₃=>
     if ok=true then wpAny (model prog w) A (eval elt env) (λx s₄=>
      wpAny (model prog w) A (call (.builtin "list.append") [acc,x]) (λ_ s₅=>∃m,m < n/\I m s₅) (notedBy (model prog w) A env λe s'=>R (.error e) s') s₄) (notedBy (model prog w) A env λe s'=>R (.error e) s') s₃
     else ∃m,m < n/\I m s₃) (notedBy (model prog w) A env λe s'=>R (.error e) s') s₂) (notedBy (model prog w) A env λe s'=>R (.error e) s') s₁') (notedBy (model prog w) A env λe s'=>R (.error e) s') s₁) (notedBy (model prog w) A env λe s'=>R (.error e) s') s)
  (n:Nat) (h:I n s):codeAny (model prog w) A (.compLoop (.ListComp elt [⟨target,iter,ifs,0⟩] scope pos) 0 it acc env) R s:=by
 refine codeAny_loop rfl I (λn s hI=>?_) n h
 show wpAny _ _ ((compTurn (.ListComp elt [⟨target,iter,ifs,0⟩] scope pos) 0 it acc env).onRaise (λx=>do noteFrame x env;theTreesLotGoes x)) _ _ s
 refine wpAny_noted ?_
 rw[compTurn_list]
 refine gA (bE (gA (LB (turn n s hI) (λr s₁ h₁=>?_) λ_ _ h'=>h')))
 cases r with
 |none=>exact DA h₁
 |some v=>
  refine gA (LB h₁ (λ_ s₁' h₁'=>?_) λ_ _ h'=>h')
  refine gA (LB h₁' (λ_ s₂ h₂=>gA (LB h₂ (λok s₃ h₃=>?_) λ_ _ h'=>h')) λ_ _ h'=>h')
  cases ok with
  |false=>exact DA ⟨rfl,h₃⟩
  |true=>
   exact gA (gA (LB h₃ (λx s₄ h₄=>gA (LB h₄ (λ_ s₅ h₅=>DA (DA ⟨rfl,h₅⟩)) λ_ _ h'=>h')) λ_ _ h'=>h'))
structure uL (ck:Cx->Prop) (P:Program) (w:World) (K:PySem.W.Frag) (tg:Expr) (J:It) (fp:List Addr) (it:Addr) (tn:Nat->Heap->Prop):Prop where
 obj:∀i h,tn i h->∀b∈fp,∃o,h.get? b=some o/\∀v,o.data≠.cell v
 keep:∀i h h',tn i h->(∀b∈fp,∀o,h.get? b=some o->h'.get? b=some o)->tn i h'
 item:∀(X:Cx),X.prog=P->X.w=w->X.K=K->ck X->∀(i:Nat) (pins:List (Addr×Obj)) (s:Shared) (σ:St) (H:Hp) (E:Value->Shared->Prop),wE X pins σ H s->(∀b∈fp,LG X pins H b)->tn i s.heap->J.go i H->
  wpAny (model P w) X.A (pyNext (.ref it)) (λr s1=>∃u,r=some u/\wpAny (model P w) X.A (letOwnedTupleGo tg (.ref it) u) (λ_ s2=>∃x H',wE X pins σ H' s2/\FE x u/\J.yld i H x H'/\tn (i+1) s2.heap/\∀b∈fp,H' b=none) E s1) E s
 done:∀(X:Cx),X.prog=P->X.w=w->X.K=K->ck X->∀(i:Nat) (pins:List (Addr×Obj)) (s:Shared) (σ:St) (H:Hp) (E:Value->Shared->Prop),wE X pins σ H s->(∀b∈fp,LG X pins H b)->tn i s.heap->J.stop i H->
  wpAny (model P w) X.A (pyNext (.ref it)) (λr s1=>r=none/\wE X pins σ H s1) E s
 self:∀(A:Around) (i:Nat) (s:Shared) (Q:Value->Shared->Prop) (E:Value->Shared->Prop),tn i s.heap->Q (.ref it) s->wpAny (model P w) A (pyIter (.ref it)) Q E s
theorem NI.g {P:Program} {w:World} {K:PySem.W.Frag} {tg:Expr} {J:It} {fp:List Addr} {it:Addr} {tn:Nat->Heap->Prop} (T:NI P w K tg J fp it tn):uL (λX=>X.calm=true) P w K tg J fp it tn:=⟨T.obj,T.keep,T.item,T.done,T.self⟩
section
variable {X:Cx}
theorem VY {ck:Cx->Prop} {pins:List (Addr×Obj)} {σ:St} {H2:Hp} {s2:Shared} {it:Addr} {fp:List Addr} {tn:Nat->Heap->Prop} {J:It} {tg iter elt:Expr} {ifs:List Expr} {scope:Scope} {cl:List (Str×Addr)} {pos:Pos} {x:Str} {fs:List Str} {ix:List Nat} {g:TG} {tt:TT} {te:TE}
  {Qf:Addr->Hp->Prop} {E:Value->Shared->Prop} {RR:Value->Addr->Result->Shared->Prop}
  (I2:wE X pins σ H2 s2) (T:uL ck X.prog X.w X.K tg J fp it tn) (st2:tn 0 s2.heap) (f2:∀b∈fp,LG X pins H2 b) (hc:∀C s₀ H₀ xe,ck (kF X scope cl C (x::fs) s₀ H₀ fp xe)) (S:OG scope X.env x fs)
  (c1:∀n c,cl.lookup n=some c->X.env.cells.lookup n=some c) (c2:∀n,(n,NameKind.free)∈scope.names->∃c,cl.lookup n=some c) (hix:ix.map (X.N[·]?)=fs.map some)
  (hg:∀C s₀ H₀ xe,PG (kF X scope cl C (x::fs) s₀ H₀ fp xe) tg g) (hf:∀C s₀ H₀ xe,PF (kF X scope cl C (x::fs) s₀ H₀ fp xe) ifs tt) (he:∀C s₀ H₀ xe,PE (kF X scope cl C (x::fs) s₀ H₀ fp xe) elt te)
  (h:∀D,H2 D=none->vJ g tt te .mk J (none::ix.map λi=>(σ[i]?).join) D (Qf D) H2)
  (fin:∀D C H' s',wE X pins σ H' s'->Qf D H'->(∃m,s'.heap.Ns C m)->LG X pins H' C->RR (.ref D) C (.ok .next) s'):
  wpAny (model X.prog X.w) X.A (newList []) (λacc s₃=>wpAny (model X.prog X.w) X.A (newFunctionEnv scope X.env.globals cl [] X.env.qual none .none (some X.env)) (λcenv s₄=>
   codeAny (model X.prog X.w) X.A (.compStart (.ListComp elt [⟨tg,iter,ifs,0⟩] scope pos) 0 (.ref it) acc {cenv with scope:=relabel scope X.env}) (RR acc cenv.locals) s₄) E s₃) E s2:=by
 have hD:H2 s2.heap.objs.size=none:=I2.hok.fresh (pA _)
 obtain⟨W,⟨m0,w0⟩,turn⟩:=h _ hD
 refine SC (wpAny_newFunctionEnv S.nocell (by intro y hy;simp at hy) (λh₁ hns₁ hsb₁=>?_) S.kind)
 have I3:wE X pins σ (upd H2 s2.heap.objs.size (.lst [])) {s2 with heap:=s2.heap.push {cls:=.type "list",dict:=none,data:=.seq ([]:List Value).toArray}}:=
  I2.laid (t':=s2.toks) (λb u e=>sA _ e) (pA _) ⟨by decide,[],0,.nil,OA _ rfl⟩
 obtain⟨e3,he3⟩:∃s3:Shared,s3={s2 with heap:=s2.heap.push {cls:=.type "list",dict:=none,data:=.seq ([]:List Value).toArray}}:=⟨_,rfl⟩
 rw[<-he3] at I3
 have hh3:s2.heap.push {cls:=.type "list",dict:=none,data:=.seq ([]:List Value).toArray}=e3.heap:=by rw[he3]
 have sz3:e3.heap.objs.size=s2.heap.objs.size+1:=by rw[<-hh3,Heap.size_push]
 dsimp only at hns₁ hsb₁ ⊢
 rw[hh3] at hns₁ hsb₁ ⊢
 generalize hH3:upd H2 s2.heap.objs.size (.lst [])=H3 at *
 have FF:∀b∈fp,b < s2.heap.objs.size:=λb hb=>let ⟨_,e,_⟩:=T.obj _ _ st2 b hb;HA e
 have f3:∀b∈fp,LG X pins H3 b:=λb hb=>by
  refine⟨?_,(f2 b hb).2⟩
  rw[<-hH3,AE (VA (FF b hb))]
  exact (f2 b hb).1
 have C0:LG X pins H3 e3.heap.objs.size:=I3.fpOk (pA _) (I3.hok.fresh (pA _))
 have old3:∀b o,e3.heap.get? b=some o->h₁.get? b=some o:=λb o e=>hsb₁.extBut b o (VA (HA e)) (sA _ e)
 have nofs:∀b∈fp,b∉fG X.stack:=λb hb z=>(xA.mp (I3.stkSub b z)).elim (f3 b hb).2.1 (f3 b hb).2.2.1
 have hst1:tn 0 h₁:=T.keep _ _ _ st2 λb _ o e=>old3 b o (by rw[<-hh3];exact sA _ e)
 have e0:=I3.env0
 have ok:∀xe,(kF X scope cl e3.heap.objs.size (x::fs) e3 H3 fp xe).Ok:=λxe=>by
  refine⟨I3.ok.mod,S.kind,I3.ok.glob,I3.ok.blt,pA _,λy z c h1 h2=>I3.ok.inj y z c (c1 _ _ h1) (c1 _ _ h2),λy hy=>?_,λy c z=>?_,I3.ok.hd,I3.ok.frames,.inl rfl,λb hb=>⟨?_,λy c e=>(f3 b hb).2.2.2.2.1 y c (c1 _ _ e)⟩,e0.bs,e0.bsz,λb o e hb=>?_,nofs,e0.funs,e0.frf⟩
  ·have q:scope.names.lookup y=some .free\/scope.names.lookup y=some .cell:=by
    rcases hy with hy|hy
    ·exact VS hy (.inl rfl)
    ·exact VS hy (.inr rfl)
   rcases q with q|q
   ·exact c2 y (PySem.mem_of_lookup q)
   ·exact absurd rfl (S.nocell _ (PySem.mem_of_lookup q))
  ·cases z
  ·exact VA (UA (FF b hb) (by rw[sz3];exact nE _))
  ·rcases (f3 b hb).2.2.2.1 with z|z
   ·exact I3.ok.noex b o e z
   ·exact absurd (UA (HA e) (EB I3.ok.bsz z)) (SB _)
 have cellUp:∀c v,e3.heap.IsCell c v->h₁.IsCell c v:=λc v ⟨o,ho,hd⟩=>⟨o,old3 _ _ ho,hd⟩
 have J0:∀xe,wE (kF X scope cl e3.heap.objs.size (x::fs) e3 H3 fp xe) [] (none::ix.map λi=>(σ[i]?).join) H3 {e3 with heap:=h₁,toks:=e3.toks+([]:List (Str×Value)).length}:=λxe=>by
  have hk:∀b o,e3.heap.get? b=some o->h₁.get? b=some o:=old3
  refine⟨ok xe,rfl,I3.bare,Un.kept hk,⟨_,hns₁,λi y v h1 h2 h3=>?_⟩,λy c e=>?_,I3.hok.fresh (pA _),λy c e=>I3.freeC y c (c1 _ _ e),λp hp=>absurd (show p∈([]:List (Addr×Obj)) from hp) (by simp),I3.hok.kept hk,?_⟩
  ·cases i with
   |zero=>cases h2
   |succ i=>
    have h1:fs[i]?=some y:=h1
    have h2:(ix.map λi=>(σ[i]?).join)[i]?=some (some v):=h2
    have hy:=S.fs y (dA h1)
    rw[NA] at h2
    cases ej:ix[i]? with
    |none=>rw[ej] at h2;cases h2
    |some j=>
     rw[ej] at h2
     have h2:(σ[j]?).join=some v:=cA h2
     have hσ:σ[j]?=some (some v):=by
      cases q:σ[j]? with
      |none=>rw[q] at h2;cases h2
      |some o=>rw[q] at h2;cases o with
       |none=>cases h2
       |some o=>cases h2;rfl
     have hN:X.N[j]?=some y:=by
      have z:=congrArg (·[i]?) hix
      simp only[NA,ej,h1,Option.map_some] at z
      exact cA z
     have kf:=S.fr _ (PySem.mem_of_lookup hy) rfl
     obtain⟨m,hn,hl⟩:=I3.loc
     obtain⟨u,r,l⟩:=hl j y v hN hσ (by rcases kf with k|k;exact .inr (.inl k);exact .inr (.inr k))
     refine⟨u,r,.inr ⟨UY hy,?_⟩⟩
     rcases l with ⟨l,_⟩|⟨_,c,e,z⟩
     ·rcases kf with k|k<;>(rw[l] at k;cases k)
     ·obtain⟨c',e'⟩:=c2 y (PySem.mem_of_lookup hy)
      have q:=c1 _ _ e'
      rw[e] at q;cases q
      exact⟨c,e',cellUp _ _ z⟩
  ·obtain⟨v,z⟩:=I3.cell y c (c1 _ _ e)
   exact⟨v,cellUp _ _ z⟩
  ·have z:=congrArg List.length hix
   simp only[lA] at z
   show (none::_:St).length=(x::fs).length
   simp only[WA,lA,z]
 have back:∀{xe σ' H' s'},wE (kF X scope cl e3.heap.objs.size (x::fs) e3 H3 fp xe) [] σ' H' s'->wE X pins σ H' s':=λ{xe σ' H' s'} J=>
  I3.call' (s':=s') (ch:=fp) J.os J.base J.hok J.bare λb hb=>⟨(f3 b hb).2.2.2.1,(f3 b hb).2.1,(f3 b hb).2.2.2.2.1,(f3 b hb).2.2.2.2.2⟩
 have stat:∀{xe} {H':Hp},(∀b∈fp,H' b=none)->∀b∈fp,LG (kF X scope cl e3.heap.objs.size (x::fs) e3 H3 fp xe) [] H' b:=λ{xe H'} hn b hb=>
  ⟨hn b hb,VA (UA (FF b hb) (by rw[sz3];exact nE _)),nofs b hb,.inl hb,λy c e=>(f3 b hb).2.2.2.2.1 y c (c1 _ _ e),λp hp=>absurd (show p∈([]:List (Addr×Obj)) from hp) (by simp)⟩
 have loop:∀s4:Shared,s4={e3 with heap:=h₁,toks:=e3.toks+([]:List (Str×Value)).length}->
   codeAny (model X.prog X.w) X.A (.compLoop (.ListComp elt [⟨tg,iter,ifs,0⟩] scope pos) 0 (.ref it) (.ref s2.heap.objs.size) (compEnvC scope cl e3.heap.objs.size X.env)) (RR (.ref s2.heap.objs.size) e3.heap.objs.size) s4:=by
  rintro s4 rfl
  let xe:=notedBy (model X.prog X.w) X.A (compEnvC scope cl e3.heap.objs.size X.env) λe s'=>RR (.ref s2.heap.objs.size) e3.heap.objs.size (.error e) s'
  refine Z6 (λn s'=>∃i ys σ' H',wE (kF X scope cl e3.heap.objs.size (x::fs) e3 H3 fp xe) [] σ' H' s'/\tn i s'.heap/\(∀b∈fp,H' b=none)/\W i n ys σ' H') ?_ m0 ⟨0,[],_,_,J0 xe,hst1,λb hb=>(f3 b hb).1,w0⟩
  rintro n s5 ⟨i,ys,σ5,H5,J5,st5,fr5,w5⟩
  rcases turn i n ys σ5 H5 w5 with ⟨stop,qn⟩|⟨go,N,hN,step⟩
  ·refine mF (T.done (kF X scope cl e3.heap.objs.size (x::fs) e3 H3 fp xe) rfl rfl rfl (hc _ _ _ _) i [] s5 σ5 H5 xe J5 (stat fr5) st5 stop) λr s6 ⟨hr,J6⟩=>?_
   subst hr
   obtain⟨m,hn,_⟩:=J6.loc
   exact fin _ _ H5 s6 (back J6) qn ⟨m,hn⟩ ⟨J6.free,C0.2⟩
  ·refine mF (T.item (kF X scope cl e3.heap.objs.size (x::fs) e3 H3 fp xe) rfl rfl rfl (hc _ _ _ _) i [] s5 σ5 H5 xe J5 (stat fr5) st5 go) λr s6 ⟨u,hr,h6⟩=>?_
   subst hr
   refine mF h6 λ_ s7 ⟨y,H7,J7,r7,y7,st7,fr7⟩=>?_
   have J7':=J7.pinned (stat fr7) (T.obj _ _ st7)
   refine mF (hg _ _ _ xe _ s7 σ5 H7 y u _ J7' r7 (step y H7 y7)) λ_ s8 ⟨σ8,H8,J8,q8⟩=>?_
   refine mF (hf _ _ _ xe _ s8 σ8 H8 _ J8 q8) λok s8' ⟨H8',J8',q8'⟩=>?_
   cases ok with
   |false=>
    obtain⟨m',hm',w9⟩:=hN _ _ _ (by simpa using q8')
    refine⟨m',hm',i+1,ys,σ8,_,J8'.unpinned,T.keep _ _ _ st7 λb hb o e=>(J8'.pin (b,o) (IA _ (IA _ (jO hb e)))).1,λb hb=>?_,w9⟩
    obtain⟨o,e,d⟩:=T.obj _ _ st7 b hb
    exact (J8'.pin (b,o) (IA _ (IA _ (jO hb e)))).2.1
   |true=>
   rw[iA rfl] at q8' ⊢
   refine mF (he _ _ _ xe _ s8' σ8 H8' _ J8' q8') λuv s9 ⟨v,H9,J9,r9,hD9,hl9,n9⟩=>?_
   obtain⟨m',hm',w9⟩:=hN _ _ _ n9
   refine mF (QJ (X:=kF X scope cl e3.heap.objs.size (x::fs) e3 H3 fp xe) _ s9 σ8 H9 (.ref s2.heap.objs.size) [v] _ [uv] (λ_ H'=>H'=upd H9 s2.heap.objs.size (.lst (ys++[v]))) J9 rfl (.cons r9 .nil) ⟨_,ys,v,rfl,rfl,hD9,hl9,rfl⟩) λ_ s10 ⟨_,H10,J10,_,eH⟩=>?_
   subst eH
   refine⟨m',hm',i+1,ys++[v],σ8,_,J10.unpinned,T.keep _ _ _ st7 λb hb o e=>(J10.pin (b,o) (IA _ (IA _ (jO hb e)))).1,λb hb=>?_,w9⟩
   obtain⟨o,e,d⟩:=T.obj _ _ st7 b hb
   exact (J10.pin (b,o) (IA _ (IA _ (jO hb e)))).2.1
 subst he3
 exact codeAny_compStart_list (loop _ rfl) (T.self X.A 0 _ _ _ hst1 (loop _ rfl))
theorem OG.clos {pins:List (Addr×Obj)} {σ:St} {H:Hp} {s:Shared} {scope:Scope} {x:Str} {fs:List Str} (S:OG scope X.env x fs) (I:wE X pins σ H s):
  ∃cl,closureFor scope X.env=pure cl/\(∀n c,cl.lookup n=some c->X.env.cells.lookup n=some c)/\∀n,(n,NameKind.free)∈scope.names->∃c,cl.lookup n=some c:=
 Y6 λn hn=>I.ok.has n (S.fr _ hn rfl)
theorem HJ {tg iter elt:Expr} {ifs:List Expr} {scope:Scope} {pos:Pos} {x:Str} {fs:List Str} {ix:List Nat} {wi:TI} {g:TG} {tt:TT} {te:TE} (hc:X.calm=true) (hi:PI X tg iter wi) (hk:nH scope X.env x fs=true) (hix:ix.map (X.N[·]?)=fs.map some)
  (hg:∀cl C s₀ H₀ fp xe,PG (kF X scope cl C (x::fs) s₀ H₀ fp xe) tg g) (hf:∀cl C s₀ H₀ fp xe,PF (kF X scope cl C (x::fs) s₀ H₀ fp xe) ifs tt) (he:∀cl C s₀ H₀ fp xe,PE (kF X scope cl C (x::fs) s₀ H₀ fp xe) elt te) (hs:∀x,foldedSetIterable iter X.env x=pure x:=by intro _;rfl):
  PE X (.ListComp elt [⟨tg,iter,ifs,0⟩] scope pos) (YJ wi ix g tt te .mk):=by
 intro pins s σ H Q I h
 have S:=OG.of hk
 obtain⟨cl,hcl,c1,c2⟩:=S.clos I
 rw[eval_ListComp]
 refine wpAny_comprehension_free (use:=none) rfl hs hcl S.kind S.own (mF (hi pins s σ H _ I h) λv s1 h1=>mF h1 λitv s2 h2=>?_)
 obtain⟨it,fp,tn,J,H2,e,I2,T,st2,f2,q⟩:=h2
 subst e
 refine VY (RR:=λacc C=>compPost (model X.prog X.w) X.A X.xe none (EP X pins σ Q) acc C) I2 T.g st2 f2 (λ_ _ _ _=>hc) S c1 c2 hix (λC s₀ H₀ xe=>hg cl C s₀ H₀ fp xe) (λC s₀ H₀ xe=>hf cl C s₀ H₀ fp xe) (λC s₀ H₀ xe=>he cl C s₀ H₀ fp xe) q λD C H' s' I' q' ⟨m,hn⟩ ⟨f0,f1,_,f3,f4,f5⟩=>?_
 exact⟨m,hn,λh' hs'=>⟨.ref D,H',I'.turned (t':=s'.toks) (λb o hb e=>(hs'.2 b hb).trans e) f0 f1 f3 f4 f5,rfl,q'⟩⟩
theorem vP {tg iter elt:Expr} {ifs:List Expr} {scope:Scope} {pos spos py:Pos} {x y:Str} {i:Nat} {fs:List Str} {ix:List Nat} {wi:TI} {g:TG} {tt:TT} {te:TE} (hN:X.N.Nodup) (hy:X.N[i]?=some y) (hl:X.env.kindOf y=some .local) (hc:X.calm=true) (hi:PI X tg iter wi)
  (hk:nH scope X.env x fs=true) (hix:ix.map (X.N[·]?)=fs.map some)
  (hg:∀cl C s₀ H₀ fp xe,PG (kF X scope cl C (x::fs) s₀ H₀ fp xe) tg g) (hf:∀cl C s₀ H₀ fp xe,PF (kF X scope cl C (x::fs) s₀ H₀ fp xe) ifs tt) (he:∀cl C s₀ H₀ fp xe,PE (kF X scope cl C (x::fs) s₀ H₀ fp xe) elt te)
  (hsw:swapsWith (.ListComp elt [⟨tg,iter,ifs,0⟩] scope pos) (some (.Name y py)) spos.line X.env=pure true:=by rfl) (hs:∀x,foldedSetIterable iter X.env x=pure x:=by intro _;rfl):
  PS X (.Assign [.Name y py] (.ListComp elt [⟨tg,iter,ifs,0⟩] scope pos) spos) (BK (YJ wi ix g tt te .mk) (OH i)):=by
 intro pins s σ H D I h
 have S:=OG.of hk
 obtain⟨cl,hcl,c1,c2⟩:=S.clos I
 rw[exec_Assign_Name_used _ _ _ _ hsw]
 refine gA (bE (gA ?_))
 show wpAny _ X.A (do let _<-comprehension (.ListComp elt [⟨tg,iter,ifs,0⟩] scope pos) scope X.env _ (newList []) false (eval iter X.env) (some (assign (.Name y py) X.env))) _ _ s
 refine gA (LB (wpAny_comprehension_free (use:=some (assign (.Name y py) X.env)) (Q:=λ_ s'=>SP X pins D .next s') rfl hs hcl S.kind S.own
  (mF (hi pins s σ H _ I h) λv s1 h1=>mF h1 λitv s2 h2=>?_)) (λ_ s' hq=>DA (DA hq)) λ_ _ e=>e)
 obtain⟨it,fp,tn,J,H2,e,I2,T,st2,f2,q⟩:=h2
 subst e
 refine VY (RR:=λacc C=>compPost (model X.prog X.w) X.A X.xe (some (assign (.Name y py) X.env)) (λ_ s'=>SP X pins D .next s') acc C) I2 T.g st2 f2 (λ_ _ _ _=>hc) S c1 c2 hix (λC s₀ H₀ xe=>hg cl C s₀ H₀ fp xe) (λC s₀ H₀ xe=>hf cl C s₀ H₀ fp xe) (λC s₀ H₀ xe=>he cl C s₀ H₀ fp xe) q
  λD' C H' s' I' q' ⟨m,hn⟩ ⟨f0,f1,_,f3,f4,f5⟩=>?_
 show wpAny _ X.A (assign (.Name y py) X.env (.ref D')) _ _ _
 refine wpAny_assign_Name (TX (v:=.ref D') I' hN hy (.inl hl) rfl (λs'' I'' ⟨a,sb,ha⟩=>?_) (.inr hl))
 have hne:C≠a:=by
  rcases ha with ha|ha
  ·rw[ha];exact f1
  ·exact λz=>f4 _ _ ha z.symm
 exact⟨m,hn.sameBut sb hne,λh' hs'=>⟨_,H',I''.turned (t':=s''.toks) (λb o hb e=>(hs'.2 b hb).trans e) f0 f1 f3 f4 f5,q'⟩⟩
end
end L2
namespace L2
open PySem PySem.Spec PyProof.Rows
section
variable {X:Cx} {pins:List (Addr×Obj)} {σ:List (Option V)} {H H':Hp} {s:Shared} {h':Heap}
theorem wE.turnedL {t':Nat} {ch:List Addr} (I:wE X pins σ H s) (k:∀b o,b∉ch->s.heap.get? b=some o->h'.get? b=some o) (hf:∀b∈ch,LG X pins H b):wE X pins σ H {s with heap:=h',toks:=t'}:=by
 have nit:∀b u,H b=some u->b∉ch:=λb u e z=>by rw[(hf b z).1] at e;cases e
 refine I.step (g':=s.gens) (d':=s.drawn) (ch:=ch) (λb hb=>⟨(hf b hb).2.2.2.1,(hf b hb).2.1,(hf b hb).2.2.2.2.1,(hf b hb).2.2.2.2.2⟩) (λb o _ _ hc e _=>k b o hc e) (λb o _ _ hc e _=>⟨o.slots,k b o hc e⟩) (λ_ _ _ _ n=>n)
  (λb o hc e=>⟨o,k b o hc e⟩) (λ_ _ e=>e) (λ_ _ _ e=>e) (λb ps e=>⟨#[],by rw[e];simp⟩) (λm hm=>?_) (λb u e=>?_) I.bare
 ·obtain⟨o,es,ep,ho,r⟩:=hm
  exact⟨o,es,ep,k _ o (λz=>(hf _ z).2.1 rfl) ho,r⟩
 ·refine (I.hok b u e).stay (λc v hc q=>k c v ?_ q) (λ_ q=>q) λ_ _ q=>q
  rcases hc with z|z
  ·rw[z];exact nit b u e
  ·exact nit c _ z
end
noncomputable def WS (K:PySem.W.Frag) (a:Addr):It:=
 ⟨λi H=>∃xs x,xE K H a xs/\xs[i]?=some x,λi H v H'=>∃t x,v=.ref t/\H t=none/\H'=upd H t (.tup [.int i,x])/\∀xs,xE K H a xs->xs[i]?=some x,λi H=>∃xs,xE K H a xs/\xs.length<=i⟩
theorem i7 {P:Program} {w:World} {K:PySem.W.Frag} {elts:List Expr} {x1} {pos:Pos} (a e it:Addr) (hne:e≠it):
  NI P w K (.Tuple elts x1 pos) (WS K a) [e,it] e (λi h=>(∃old,IsEnum h e it i old)/\h.IsListIter it a i) where
 mem:=by simp
 obj:=λi h st b hb=>by
  obtain⟨⟨old,he⟩,o,ho,c,d⟩:=st
  have hb:b=e\/b=it:=by simpa using hb
  rcases hb with rfl|rfl
  ·exact⟨_,he,λv z=>by
    have z':Data.fields _=Data.cell v:=z
    cases z'⟩
  ·exact⟨o,ho,λv z=>by rw[d] at z;cases z⟩
 keep:=λi h h' st k=>⟨let ⟨old,he⟩:=st.1;⟨old,k e (by simp) _ he⟩,st.2.at λo q=>k it (by simp) o q⟩
 item:=by
  intro X hP hw hK hc i pins s σ H E I hf st hg
  subst hP hw hK
  obtain⟨xs,x,hq,hx⟩:=hg
  obtain⟨its,rv,p,hz⟩:=I.list hq
  obtain⟨u,hu,ru⟩:=rv.get hx
  obtain⟨⟨old,he⟩,hit⟩:=st
  refine wpAny_pyNext_enum_item he hit p.isList (x:=u) (by simpa using hu) hne λh1 eo hit1 ht hsz kk=>?_
  refine⟨_,rfl,wpAny_letOwnedTupleGo_enum eo λh2 en sb=>?_⟩
  have hT:H s.heap.objs.size=none:=I.hok.fresh (pA _)
  have hef:e≠s.heap.objs.size:=VA (HA he)
  have hif:it≠s.heap.objs.size:=VA (let ⟨_,ho,_⟩:=hit;HA ho)
  have ht2:h2.get? s.heap.objs.size=some {cls:=.type "tuple",data:=.seq #[.int i s.toks,u]}:=(sb.2 _ (Ne.symm hef)).trans ht
  have I1:wE X pins σ (upd H s.heap.objs.size (.tup [.int i,x])) {s with heap:=s.heap.push {cls:=.type "tuple",data:=.seq #[.int i s.toks,u]}}:=
   I.laid (t':=s.toks) (λb o q=>sA _ q) (pA _) ⟨by show 2<=sizeLine;decide,[.int i s.toks,u],.cons ⟨_,rfl⟩ (.cons ru .nil),⟨_,OA _ rfl,rfl,_,rfl⟩⟩
  have hf1:∀b∈[e,it],LG X pins (upd H s.heap.objs.size (.tup [.int i,x])) b:=λb hb=>by
   refine⟨?_,(hf b hb).2⟩
   have hb':b=e\/b=it:=by simpa using hb
   rw[AE (by rcases hb' with rfl|rfl;exact hef;exact hif)]
   exact (hf b hb).1
  have I2:wE X pins σ (upd H s.heap.objs.size (.tup [.int i,x])) {s with heap:=h2,toks:=s.toks+1}:=by
   have J:=wE.turnedL (t':=s.toks+1) (h':=h2) (ch:=[e,it]) I1 ?k hf1
   ·exact J
   intro b o hb q
   dsimp only at q
   have hb1:b≠e:=λz=>hb (by simp[z])
   have hb2:b≠it:=λz=>hb (by simp[z])
   rcases PySem.Heap.get?_push_cases q with ⟨rfl,rfl⟩|q
   ·exact ht2
   ·exact (sb.2 b hb1).trans (kk b o hb1 hb2 q)
  refine⟨.ref s.heap.objs.size,_,I2,rfl,⟨_,x,rfl,hT,rfl,λys hy=>by rw[I.list_inj hy hq];exact hx⟩,⟨⟨_,en⟩,hit1.extBut sb.extBut (Ne.symm hne)⟩,λb hb=>(hf1 b hb).1⟩
 done:=by
  intro X hP hw hK hc i pins s σ H E I hf st hg
  subst hP hw hK
  obtain⟨xs,hq,hx⟩:=hg
  obtain⟨its,rv,p,hz⟩:=I.list hq
  obtain⟨⟨old,he⟩,hit⟩:=st
  obtain⟨f0,f1,f2,f3,f4,f5⟩:=hf it (by simp)
  have hl:=rv.length
  exact wpAny_pyNext_enum_end (I.ok.hd hc) he hit p.isList (by simp;omega) λh' eb=>⟨rfl,I.turned (t':=s.toks) (λb o hb e=>eb b o hb e) f0 f1 f3 f4 f5⟩
 self:=λ_ _ _ _ _ st h=>let ⟨_,he⟩:=st.1;wpAny_pyIter_enum he h
section
variable {X:Cx}
noncomputable def vL (K:PySem.W.Frag) (ta:TA):TI:=λσ H R=>ta σ H λvs H1=>∃a,vs=[.ref a]/\(∃xs,xE K H1 a xs)/\R (WS K a) H1
theorem j7:bootBuiltins "enumerate"=some (.type "enumerate"):=by decide+kernel
theorem WY {e:Expr} {ta:TA} {p pos tpos:Pos} {elts:List Expr} {x1} (hg:Gl X "enumerate") (hm:X.mg "enumerate"=none) (ha:PA X [e] ta) (hs:starEach [e] X.env=[(false,eval e X.env)]:=by rfl):
  PI X (.Tuple elts x1 tpos) (.Call (.Name "enumerate" p) [e] [] pos) (vL X.K ta):=by
 intro pins s σ H R I h
 refine Call_ (PO I hg hm j7 (QC (mF (ha pos pins s σ H _ I h) λus s1 ⟨vs,H1,I1,r1,q1⟩=>?_) hs rfl))
 obtain⟨a,ev,⟨xs,hq⟩,q⟩:=q1
 subst ev
 cases r1 with
 |cons r rr=>
  cases rr
  cases r
  obtain⟨its,rv,pl,hz⟩:=I1.list hq
  refine call_enumerate_list pl.isList λh' he hit hsz kk=>wpAny_pyIter_enum he ?_
  have I2:wE X pins σ H1 {s1 with heap:=h'}:=I1.kept (t':=s1.toks) kk
  refine⟨s1.heap.objs.size+1,[s1.heap.objs.size+1,s1.heap.objs.size],_,_,H1,rfl,I2,i7 a _ _ (Nat.ne_of_gt (dE _)),⟨⟨_,he⟩,hit⟩,λb hb=>?_,q⟩
  have hb:b=s1.heap.objs.size+1\/b=s1.heap.objs.size:=by simpa using hb
  have hle:s1.heap.objs.size<=b:=by rcases hb with rfl|rfl;exact nE _;exact pA _
  exact I1.fpOk hle (I1.hok.fresh hle)
end
theorem XY {K:PySem.W.Frag} {a:Addr} {xs:List V} {g:TG} {tb:TS} {h:uJ g tb} {D:JG} {σ:St} {H:Hp} (Pv:Nat->St->Hp->Prop) (h0:Pv 0 σ H) (hl:∀i σ H,i<=xs.length->Pv i σ H->xE K H a xs)
  (hs:∀i x t σ H,xs[i]?=some x->Pv i σ H->H t=none->g (.ref t) σ (upd H t (.tup [.int i,x])) λσ2 H2=>tb {D with nx:=Pv (i+1),ct:=Pv (i+1),bk:=D.nx} σ2 H2) (hd:∀σ H,Pv xs.length σ H->D.nx σ H):JK g tb h (WS K a) D σ H:=by
 refine⟨λi m σ H=>i+m=xs.length/\Pv i σ H,⟨xs.length,UB _,h0⟩,λi m σ H ⟨e,p⟩=>?_⟩
 have hq:=hl i σ H (by omega) p
 by_cases hi:i < xs.length
 ·have ex:xs[i]?=some xs[i]:=bA hi
  refine .inr ⟨⟨xs,_,hq,ex⟩,Pv (i+1),λσ H q=>⟨m - 1,by omega,by omega,q⟩,?_⟩
  rintro y H' ⟨t,x,rfl,ht,rfl,hy⟩
  exact hs i x t σ H (hy xs hq) p ht
 ·have e':i=xs.length:=by omega
  subst e'
  exact .inl ⟨⟨xs,hq,pA _⟩,hd σ H p⟩
end L2
namespace L2
open PySem PySem.Spec PyProof.Rows
section
variable {X:Cx} {pins:List (Addr×Obj)} {σ:St} {H:Hp} {s:Shared} {a:Addr} {kvs:List (Key×V)} {k:Key} {u r:Value} {z:V} {A:Around} {E:Value->Shared->Prop}
end
section
variable {X:Cx} {o e f:Expr} {apos cpos:Pos} {td ty tx:TE}
end
theorem YY:∀{bs:List Bool} {us:List Value},BE (bs.map V.bl) us->LSm.BoolsAre us bs
 |[],_,h=>by cases h;exact .nil
 |b::bs,_,h=>by
  cases h with
  |cons r rr=>
   cases r
   exact .cons _ (YY rr)
theorem o7 {X:Cx} (hc:X.calm=true):zG X (.builtin "any") (λxs H Q=>∃(p:Addr) (bs:List Bool),xs=[.ref p]/\xE X.K H p (bs.map V.bl)/\Q (.bl (bs.any id)) H):=by
 intro pins s σ H xs us Q I r h
 obtain⟨p,bs,rfl,hq,q⟩:=h
 obtain⟨u,rfl,rx⟩:=QH r
 cases rx
 obtain⟨its,r',pl,hz⟩:=I.list hq
 have hb:=YY r'
 have hl:=pl.isList
 have hlt:p < s.heap.objs.size:=by obtain⟨_,e,_⟩:=id hl;exact HA e
 refine call_any_walk (wpAny_pyIter_list hl ?_)
 refine⟨s.heap.objs.size,[s.heap.objs.size,p],[s.heap.objs.size],its.toArray.size,_,_,λi=>(bs[i]?).getD false,rfl,Walks.list (A:=X.A.in1) (I.ok.hd hc) _ p (VA hlt) its.toArray,
  ⟨⟨_,OA _ rfl,rfl,rfl⟩,hl.push _⟩,λi v s' Q' E' hP hQ=>?_,λh' tk hk=>?_⟩
 ·obtain⟨b,e,rfl⟩:=hb.get i v (by simpa using hP)
  simp only[e,Option.getD_some] at hQ
  exact TC hQ
 ·have e:((List.range its.toArray.size).any λi=>(bs[i]?).getD false)=bs.any id:=by
   rw[JA,hb.length];exact LSm.range_any bs
  rw[e]
  exact⟨.bl (bs.any id),H,I.kept (t':=tk) (LSm.kept_iter hk),rfl,q⟩
inductive NM (c:TT) (tb:TS):Type where
 |mk:NM c tb
inductive OM (tb:TS):Type where
 |mk:OM tb
noncomputable def wL (c:TT) (tb:TS) (_:NM c tb):TS:=MJ c tb
noncomputable def xL (tb:TS) (_:OM tb) (Pv:Nat->St->Hp->Prop) (m:Nat) (D:JG) (σ:St) (H:Hp):Prop:=
 ∃N:St->Hp->Prop,(∀σ' H',N σ' H'->∃m',m' < m/\Pv m' σ' H')/\tb {D with nx:=N,ct:=N,bk:=D.nx} σ H
theorem ZY {X:Cx} {c:Expr} {body:List Stmt} {tc:TT} {tb:TS} {pos:Pos} (hp:PassesOwn (model X.prog X.w) X.A X.env X.xe) (hc:PT X c tc) (hb:oI X body tb):PS X (.While c body [] pos) (wL tc tb .mk):=Z3 hp hc hb
theorem aZ {c:TT} {tb:TS} {h:NM c tb} {D:JG} {σ:St} {H:Hp} (Pv:Nat->St->Hp->Prop) (m0:Nat) (h0:Pv m0 σ H)
 (hs:∀m σ H,Pv m σ H->c σ H λb H1=>if b=true then xL tb .mk Pv m D σ H1 else D.nx σ H1):wL c tb h D σ H:=⟨Pv,⟨m0,h0⟩,hs⟩
theorem yL {tb:TS} {h:OM tb} {Pv:Nat->St->Hp->Prop} {m:Nat} {D:JG} {σ:St} {H:Hp}
 (q:tb {D with nx:=λσ' H'=>∃m',m' < m/\Pv m' σ' H',ct:=λσ' H'=>∃m',m' < m/\Pv m' σ' H',bk:=D.nx} σ H):xL tb h Pv m D σ H:=⟨_,λ_ _ h=>h,q⟩
end L2
namespace L2
open PySem PySem.Spec PyProof.Rows
section
variable {X:Cx} {pins:List (Addr×Obj)} {σ:List (Option V)} {H:Hp} {s:Shared} {a:Addr}
theorem wE.rewrite {u v:HO} (I:wE X pins σ H s) (e:H a=some u) (hn:∀b,u≠.own b) (ht:∀xs,u≠.tup xs) (h0:∀w,X.H₀ a=some w->(∃o z,w=.frz o z)\/(∃xs,w=.tup xs)\/(∃ps,w=.tbl ps)->False) (new:NE X.prog X.w (upd H a v) s.heap a v):
  wE X pins σ (upd H a v) s where
 ok:=I.ok
 os:=I.os
 bare:=I.bare
 base:=⟨I.base.keep,I.base.slot,λb o q n hx=>by
   have:=I.base.free b o q n hx
   rw[AE (λz=>by rw[z,e] at this;cases this)];exact this,I.base.there,
  λb xs q=>by
   have hb:b≠a:=λz=>h0 _ (z ▸ q) (.inr (.inl ⟨_,rfl⟩))
   rw[AE hb];exact I.base.tups b xs q,
  λb o z q=>by
   have hb:b≠a:=λz=>h0 _ (z ▸ q) (.inl ⟨_,_,rfl⟩)
   rw[AE hb];exact I.base.frzs b o z q,
  λb ps q=>by
   have hb:b≠a:=λz=>h0 _ (z ▸ q) (.inr (.inr ⟨_,rfl⟩))
   rw[AE hb];exact I.base.tbls b ps q⟩
 loc:=I.loc
 cell:=I.cell
 free:=by rw[AE (Ne.symm (NF e I.free))];exact I.free
 freeC:=λx c q=>by
  have:=I.freeC x c q
  rw[AE (Ne.symm (NF e this))];exact this
 pin:=λp hp=>by
  obtain⟨p1,p2,p3⟩:=I.pin p hp
  exact⟨p1,by rw[AE (Ne.symm (NF e p2))];exact p2,p3⟩
 hok:=λb w q=>by
  by_cases hb:b=a
  ·subst hb;rw[bF] at q;cases q;exact new
  ·rw[AE hb] at q
   refine (I.hok b w q).stay (λ_ _ _ q=>q) (λc q=>?_) λc xs q=>?_
   ·rw[AE (λz=>by rw[z,e] at q;exact hn _ (cA q))];exact q
   ·rw[AE (λz=>by rw[z,e] at q;exact ht _ (cA q))];exact q
 len:=I.len
theorem wE.still {w:HO} (I:wE X pins σ H s) (h:X.H₀ a=some w) (hw:(∃o z,w=.frz o z)\/(∃xs,w=.tup xs)\/(∃ps,w=.tbl ps)):(∃o z,H a=some (.frz o z))\/(∃xs,H a=some (.tup xs))\/(∃ps,H a=some (.tbl ps)):=by
 rcases hw with ⟨o,z,rfl⟩|⟨xs,rfl⟩|⟨ps,rfl⟩
 ·exact .inl ⟨o,z,I.base.frzs a o z h⟩
 ·exact .inr (.inl ⟨xs,I.base.tups a xs h⟩)
 ·obtain⟨m,e⟩:=I.base.tbls a ps h
  exact .inr (.inr ⟨_,e⟩)
end
end L2
namespace L2
open PySem PySem.Spec PyProof.Rows
end L2
namespace L2
open PySem PySem.Spec PyProof.Rows
noncomputable def MK (xs:List V):List Dv:=xs.map .leaf
theorem bZ {K:PySem.W.Frag} {H:Hp}:∀(xs:List V),xs.all YF=true->JE K H (MK xs) xs
 |[],_=>by unfold MK JE;rfl
 |x::xs,h=>by
  rw[ZD,kB] at h
  show JE K H (.leaf x::MK xs) (x::xs)
  unfold JE
  exact⟨_,_,rfl,by unfold EF;exact⟨rfl,h.1⟩,bZ xs h.2⟩
theorem p7 {K:PySem.W.Frag} {H:Hp} {a:Addr} {xs:List V} (h:oF K H a xs) (hf:xs.all YF=true):EF K H (.seq true (MK xs)) (.ref a):=by
 unfold EF
 exact⟨a,_,rfl,by simpa using h,bZ xs hf⟩
theorem XS:∀(xs:List V),GE (MK xs)=0
 |[]=>by unfold MK;simp[GE]
 |x::xs=>by
  show GE (.leaf x::MK xs)=0
  rw[GE,vF,XS xs];rfl
end L2
namespace L2
open PySem PySem.Spec PyProof.Rows
end L2
namespace L2
open PySem PySem.Spec PyProof.Rows
theorem cZ {X:Cx} {K:PySem.W.Frag} (h:X.K=K):vK X (qJ K):=h ▸ CG
theorem NK {X:Cx} {K:PySem.W.Frag} (h:X.K=K):vK X (FK K):=h ▸ eF
end L2
namespace L2
open PySem PySem.Spec PyProof.Rows
structure ZJ (K:PySem.W.Frag) (x qual:Str) (st:Stmt) (f:Addr) (fd:FuncData):Prop where
 ex:∃(oc:Value) (od:Option Addr) (dV kV doc pm:Value) (an:Option Addr) (cdv ct:Value) (osl:Array (Option Value)),
  fd=PySem.W.fnOf x qual (qF st) (dF st) (qE st) dV kV doc pm an cdv ct/\K.lookup f=some ⟨oc,od,.func fd,osl⟩/\PySem.W.codeIn K cdv qual=true
 kp:PySem.W.keepIn K (.ref f)=true
section
variable {P:Program} {w:World} {K:PySem.W.Frag} {mg:Str->Option Value} {base:Heap}
theorem ZJ.okE {x qual:Str} {st:Stmt} {f:Addr} {fd:FuncData} {N ps:List Str} {k:Nat} {sp:Sp} (F:ZJ K x qual st f fd) (S:tE N ps (qE st)) (len:∀vs H Q E,sp vs H Q E->vs.length=ps.length)
  (hbody:jI P w K mg base qual st N k sp):NG P w K mg base (wI P w) (k+1) f fd ps sp:=by
 obtain⟨oc,od,dV,kV,doc,pm,an,cdv,ct,osl,rfl,lk,hcd⟩:=F.ex
 exact yS lk hcd S len λA outer s H vs Q E hr hsp=>hbody f cdv A outer s H vs Q E hr hsp
noncomputable def zL (K:PySem.W.Frag) (C:Addr) (m qual:Str) (st:Stmt) (ps:List Str) (dvs:List V):Prop:=∃f fd ds,RI K C m f/\ZJ K m qual st f fd/\kG K fd ps ds/\BE dvs ds
noncomputable def AL (K:PySem.W.Frag) (mg:Str->Option Value) (x:Str) (C:Addr) (qual:Str) (st:Stmt) (ps:List Str) (dvs:List V):Prop:=∃f fd ds,mg x=some (.ref C)/\Mk K C f/\ZJ K "__init__" qual st f fd/\kG K fd ps ds/\BE dvs ds
theorem zL.have {C:Addr} {m qual:Str} {st:Stmt} {N ps:List Str} {dvs:List V} {k:Nat} {sp:Sp} (R:zL K C m qual st ps dvs) (S:tE N ps (qE st)) (len:∀vs H Q E,sp vs H Q E->vs.length=ps.length)
  (hbody:jI P w K mg base qual st N k sp):RE P w K mg base C m (k+1) ps dvs sp:=
 let ⟨f,fd,ds,hm,F,hb,hd⟩:=R
 ⟨f,fd,ds,hm,hb,hd,F.okE S len hbody⟩
theorem AL.have {C:Addr} {x qual:Str} {st:Stmt} {N ps:List Str} {dvs:List V} {k:Nat} {sp:Sp} (R:AL K mg x C qual st ps dvs) (S:tE N ps (qE st)) (len:∀vs H Q E,sp vs H Q E->vs.length=ps.length)
  (hbody:jI P w K mg base qual st N k sp):RH P w K mg base x C (k+1) ps dvs sp:=
 let ⟨f,fd,ds,hm,M,F,hb,hd⟩:=R
 ⟨f,fd,ds,hm,M,hb,hd,F.okE S len hbody⟩
end
end L2
namespace L2
open PySem PySem.Spec PyProof.Rows
end L2
namespace L2
open PySem PySem.Spec PyProof.Rows
end L2
namespace L2
open PySem PySem.Spec PyProof.Rows
noncomputable def wP (K:PySem.W.Frag):R2:=λx y H Q=>FK K x y H Q\/qJ K x y H Q
theorem dZ {X:Cx}:vK X (wP X.K):=eF.or CG
section
variable {X:Cx}
end
theorem BE.at {xs:List V} {us:List Value} (r:BE xs us) (m:Nat) (h1:m < xs.length) (h2:m < us.length):FE xs[m] us[m]:=by
 obtain⟨u,hu,ru⟩:=r.get (bA h1)
 rw[bA h2] at hu
 cases hu
 exact ru
end L2
namespace L2
open PySem PySem.Spec PyProof.Rows
end L2
namespace L2
open PySem PySem.Spec PyProof.Rows
section
variable {prog:Program} {w:World} {K:Type} [DecidableEq K] {knd:HeapKind prog w K} {A:Around} {E:Value->Shared->Prop} {s:Shared}
end
end L2
namespace L2
open PySem PySem.Spec PyProof.Rows
noncomputable def bH (h:Heap) (d:Addr) (es:Array DictEntry) (ep:Nat):Prop:=∃o,h.get? d=some o/\o.ExactDict/\o.data=.dict es ep
theorem bH.ty {s:Shared} {d:Addr} {es:Array DictEntry} {ep:Nat} (r:bH s.heap d es ep):s.TypeIs (.ref d) "dict":=let ⟨o,ho,hc,_⟩:=r;⟨o,ho,hc.1⟩
theorem bH.lt {h:Heap} {d:Addr} {es:Array DictEntry} {ep:Nat} (r:bH h d es ep):d < h.objs.size:=let ⟨_,ho,_⟩:=r;HA ho
theorem bH.kept {h h':Heap} {d:Addr} {es:Array DictEntry} {ep:Nat} (r:bH h d es ep) (k:∀o,h.get? d=some o->h'.get? d=some o):bH h' d es ep:=let ⟨o,ho,q⟩:=r;⟨o,k _ ho,q⟩
section
variable {prog:Program} {w:World} {A:Around} {E:Value->Shared->Prop} {s:Shared} {d it:Addr} {es:Array DictEntry} {ep i:Nat}
theorem eZ {Q:Value->Shared->Prop} (nd:(d == sysModules)=false) (r:bH s.heap d es ep)
  (q:Q (.ref s.heap.objs.size) {s with heap:=s.heap.push {cls:=.type "dict_keyiterator",data:=.fields #[.ref d,.int 0 0,.int es.size 0,.int ep 0]}}):wpAny (model prog w) A (pyIter (.ref d)) Q E s:=by
 obtain⟨o,e0,ec,ed⟩:=id r
 refine wpAny_pyIter_slot r.ty PySem.F.slot_dict_iter (WC PySem.F.slot_dict_iter r.ty PySem.F.entry_dict_iter ?_ (PySem.F.args_dict_iter_1 _))
 unfold Builtin.«dict.__iter__» Builtin.Dict.dictSlotNone Builtin.Dict.showsAll
 refine gA (gA (wpAny_notOrdered_dict r.ty (DA ?_)))
 refine gA (m:=if d == sysModules then _ else _) ?_
 rw[fA (by rw[nd];exact oA)]
 refine DA (gA (vD e0 ed (gA (wpAny_dictEpoch e0 ed ?_))))
 exact gA (SC (DA ⟨_,rfl,"dict_keyiterator",_,⟨_,OA _ rfl,rfl⟩,PySem.F.slot_dict_keyiterator_next.lookup,by simpa[rawInt] using q⟩))
theorem fZ {Q:Option Value->Shared->Prop} (t:s.heap.IsKeyIter it d i es.size ep) (r:bH s.heap d es ep) (hi:i < es.size)
  (q:∀h',h'.IsKeyIter it d (i+1) es.size ep->Heap.SameBut it s.heap h'->Q (some es[i].key) {s with heap:=h'}):wpAny (model prog w) A (pyNext (.ref it)) Q E s:=by
 obtain⟨b,b0,bc,bd⟩:=id t
 obtain⟨o,e0,ec,ed⟩:=id r
 unfold pyNext
 refine gA (wpAny_attempt (wpAny_callSpecial?_slot (name:=Str.ofString "__next__") t.typeIs PySem.F.slot_dict_keyiterator_next (WC PySem.F.slot_dict_keyiterator_next t.typeIs PySem.F.entry_dict_keyiterator_next ?_ (PySem.F.args_dict_keyiterator_next_1 _))))
 refine gA (DA (gA (gA (gA (VB t.typeIs (DA (gA (wpAny_fieldsOf b0 bd ?_))))))))
 simp only[show Builtin.Dict_items.ownsTuple "dict_keyiterator"=false by decide,QA,HB]
 show wpAny _ _ (if (Value.ref d == Value.none)=true then _ else _) _ _ s
 rw[fA (show ¬((Value.ref d == Value.none)=true) from oA)]
 refine gA (DA (gA (vD e0 ed ?_)))
 rw[fA (by simp)]
 refine gA (DA (gA (wpAny_dictEpoch e0 ed ?_)))
 rw[fA (by simp)]
 refine DA ?_
 simp only[show ¬((i:Int) < 0) from by omega,HB,vB,GB hi]
 refine gA (gA (VB t.typeIs (DA (gA (wpAny_isOneOf_keyiter t.typeIs ?_)))))
 show wpAny _ _ (setField (.ref it) 1 (rawInt ((i:Int)+1)) >>= _) _ _ s
 refine gA (wD b0 bd (by simp) ?_)
 have t2:(s.heap.update it (Obj.mapFields (·.setIfInBounds 1 (rawInt ((i:Int)+1))))).IsKeyIter it d (i+1) es.size ep:=⟨_,nC _ b0 (LC (HC bd _)),(Obj.cls_mapFields ..).trans bc,by rw[HC bd];simp[rawInt]⟩
 refine gA (IB (gA (wpAny_isOneOf_keyiter (s:={s with heap:=s.heap.update it (Obj.mapFields (·.setIfInBounds 1 (rawInt ((i:Int)+1))))}) t2.typeIs ?_)))
 show wpAny _ _ (pure es[i].key) _ _ _
 exact DA (DA ⟨_,rfl,DA (q _ t2 (BC ..))⟩)
theorem gZ {Q:Option Value->Shared->Prop} (hh:A.handled=none) (t:s.heap.IsKeyIter it d es.size es.size ep) (r:bH s.heap d es ep)
  (q:∀h',Heap.ExtBut it s.heap h'->Q none {s with heap:=h'}):wpAny (model prog w) A (pyNext (.ref it)) Q E s:=by
 obtain⟨b,b0,bc,bd⟩:=id t
 obtain⟨o,e0,ec,ed⟩:=id r
 unfold pyNext
 refine gA (wpAny_attempt (wpAny_callSpecial?_slot (name:=Str.ofString "__next__") t.typeIs PySem.F.slot_dict_keyiterator_next (WC PySem.F.slot_dict_keyiterator_next t.typeIs PySem.F.entry_dict_keyiterator_next ?_ (PySem.F.args_dict_keyiterator_next_1 _))))
 refine gA (DA (gA (gA (gA (VB t.typeIs (DA (gA (wpAny_fieldsOf b0 bd ?_))))))))
 simp only[show Builtin.Dict_items.ownsTuple "dict_keyiterator"=false by decide,QA,HB]
 show wpAny _ _ (if (Value.ref d == Value.none)=true then _ else _) _ _ s
 rw[fA (show ¬((Value.ref d == Value.none)=true) from oA)]
 refine gA (DA (gA (vD e0 ed ?_)))
 rw[fA (by simp)]
 refine gA (DA (gA (wpAny_dictEpoch e0 ed ?_)))
 rw[fA (by simp)]
 refine DA ?_
 simp only[show ¬((es.size:Int) < 0) from by omega,HB,vB,Array.getElem?_eq_none (pA es.size)]
 refine gA (gA (VB t.typeIs (DA ?_)))
 show wpAny _ _ (setField (.ref it) 0 .none >>= _) _ _ s
 refine gA (wD b0 bd (by simp) ?_)
 show wpAny _ _ (newExc (.type "StopIteration") [] >>= _) _ _ _
 refine gA ?_
 simp only[newExc,newTuple]
 refine gA (SC (gA (m:=firstArgMember _ _) (wpAny_of_eq (a:=Value.none) (by first|rfl|(simp only[firstArgMember];rfl)) (SC ?_ (by size_fits)))) (by size_fits))
 simp only[raiseNew]
 refine gA (wpAny_handled ?_)
 rw[show A.in1.handled=none from hh]
 refine gA (DA (wpAny_throw ?_))
 refine gA (m:=isInstance _ _) (wpAny_isInstance (b:=true) (T:="StopIteration") ⟨_,OA _ rfl,rfl⟩ isSubtype_stop ?_)
 exact DA (q _ (((BC ..).extBut.push _).push _))
theorem t7 (hh:A.handled=none) (I:Addr) (ne:d≠I):Walks prog w A I [I,d] [I] es.size (λi v=>∃h:i < es.size,v=es[i].key) (λi h=>h.IsKeyIter I d i es.size ep/\bH h d es ep) where
 sub:=λb hb=>xA.mpr (.inl (kA.mp hb))
 frame:=λ_ _ _ x k=>⟨x.1.at λo e=>k I (wA ..) o e,x.2.kept λo e=>k d (jA _ (wA ..)) o e⟩
 item:=λi s Q E hi x q=>fZ x.1 x.2 hi λh' t2 sb=>q _ h' s.toks ⟨hi,rfl⟩ ⟨t2,x.2.kept λo e=>(sb.2 d ne).trans e⟩ λb o hb e=>(sb.2 b λz=>hb (kA.mpr z)).trans e
 done:=λs Q E x q=>gZ hh x.1 x.2 λh' eb=>q h' s.toks λb o hb e=>eb b o (λz=>hb (kA.mpr z)) e
 self:=λ_ _ _ _ x q=>wpAny_pyIter_keyiter x.1 q
theorem K7 (nd:(d == sysModules)=false):PySem.W.KdlSrc prog w "dict" d d es.size (λi v=>∃h:i < es.size,v=es[i].key) (λh=>bH h d es ep) where
 type:=λ_ r=>r.ty
 there:=λ_ r=>⟨r.lt,r.lt⟩
 keep:=λ_ _ r k=>r.kept λo e=>k d (.inl rfl) o e
 notList:=by decide
 notTuple:=by decide
 hint:=λ_ _ _ _ r q=>PySem.W.kdl_hint_dict r.ty q
 iter:=λ_ _ hh r=>⟨_,_,(λ_ _ q=>eZ nd r q),t7 hh _ (VA r.lt),⟨⟨_,OA _ rfl,rfl,rfl⟩,r.kept λo e=>sA _ e⟩⟩
end
noncomputable def yI (H:Hp) (ks:List (List Key)) (vs:List V):Prop:=Paired (λk v=>∃a,v=V.ref a/\H a=some (.tup (k.map kV))) ks vs
end L2
namespace L2
open PySem PySem.Spec PyProof.Rows
section
variable {X:Cx}
end
end L2
namespace L2
open PySem PySem.Spec PyProof.Rows
end L2
namespace L2
open PySem PySem.Spec PyProof.Rows
end L2
namespace L2
open PySem PySem.Spec PyProof.Rows
noncomputable def aK (tk tv:TE):TE:=λσ H Q=>∀p,H p=none->tk σ (upd H p (.dT [])) λx H1=>tv σ H1 λy H2=>H2 p=some (.dT [])/\∃b k,x=.ref b/\H2 b=some (.tup (k.map kV))/\Q (.ref p) (upd H2 p (.dT [(k,y)]))
theorem M7 {X:Cx} {pos:Pos} {k v:Expr} {tk tv:TE} (hu:X.A.units+1 < cLine) (hk:PE X k tk) (hv:PE X v tv):PE X (.Dict [some k] [v] pos) (aK tk tv):=by
 intro pins s σ H Q I q
 have hn:=I.hok.fresh (pA s.heap.objs.size)
 have I1:=I.laid (a:=s.heap.objs.size) (o:=.dT []) (h':=s.heap.push {cls:=.type "dict",data:=.dict #[]}) (t':=s.toks) (λ_ _ q=>sA _ q) (pA _) (CY s.heap I.big)
 rw[arm_eval_Dict,zip_pairTrees [some k] [v] X.env pos rfl rfl,dictDisplay_pairs (pairTrees [some k] [v] X.env pos) (by intro z;cases z) (by show (1:Nat) < 17;decide)]
 refine gA (bE (gA ?_))
 unfold subDict
 refine gA (wpAny_alloc ?_)
 refine gA (IB ?_)
 rw[iA (by show (1:Nat)<=15;decide)]
 refine gA (pairTrees_cons_walk (mF (hk pins _ σ _ _ I1 (q _ hn)) λu s1 ⟨x,H1,I2,rx,q1⟩=>mF (hv pins s1 σ H1 _ I2 q1) λw2 s2 ⟨y,H2,I3,ry,hp,b,kk,ex,hb,q2⟩=>pairTrees_nil_walk ?_))
 subst ex
 cases (show u=Value.ref b from rx)
 refine IB ?_
 obtain⟨z,hd,xs,rel,dd⟩:=lO I3.hok hp
 cases rel
 rw[jE]
 dsimp only
 refine gA (gA (gA (wpAny_dictSet_heap (hsz:=by rw[ID];exact fC _) (show (tupleKind (cF X.prog X.w)).room X.A from (by omega:X.A.units < cLine)) (cR I3.hok hb) dd λh' dd' hs=>DA ?_)))
 dsimp only
 rw[List.forIn_nil]
 refine DA (DA ?_)
 obtain⟨o,es,ep,hq,h2,h3,h4,_,h5⟩:=dd'
 refine DA (DA ⟨.ref s.heap.objs.size,_,dR (ob:=.dT [(kk,y)]) I3 (by rw[hp];exact True.intro) hs ⟨o,hq⟩ ⟨by rw[ID];show (1:Nat)<=_;decide,hd,[(kk,b,w2)],.cons ⟨rfl,by rw[AE (qG hb hp (λz=>nomatch z))];exact hb,ry⟩ .nil,o,es,ep,hq,h2,h3,h4,h5⟩,rfl,q2⟩)
section
variable {prog:Program} {w:World} {A:Around} {E:Value->Shared->Prop} {s:Shared}
end
end L2
namespace L2
open PySem PySem.Spec PyProof.Rows
noncomputable def SH (i:Nat):TE:=λσ H Q=>match σ[i]? with
 |some (some v)=>Q v H
 |_=>False
theorem N7 {i:Nat} {σ:St} {H:Hp} {Q:VK} (h:SH i σ H Q):sM i σ H Q:=by
 unfold SH at h
 split at h
 ·rename_i v e;exact⟨v,e,h⟩
 ·exact h.elim
theorem pE {X:Cx} (i:Nat) {x:Str} {pos:Pos} (hN:X.N[i]?=some x:=by rfl) (hv:nS X.env.scope x:=by first|exact Or.inl rfl|exact Or.inr (Or.inl rfl)|exact Or.inr (Or.inr rfl)) (hd:(x == ("__debug__":Str))=false:=by decide)
 (hcd:(x == ("__classdict__":Str))=false:=by decide):PE X (.Name x pos) (SH i):=λpins s σ H Q I h=>tM hN hv hd hcd pins s σ H Q I (N7 h)
theorem PM {g:Int->Int->V} {i j:Int} {H:Hp} {Q:VK}:CK g (.int i) (.int j) H Q=Q (g i j) H:=propext ⟨λ⟨_,_,e1,e2,h⟩=>by cases e1;cases e2;exact h,λh=>⟨_,_,rfl,rfl,h⟩⟩
theorem xP {C:Int->Int->Prop} {g:Int->Int->V} {i j:Int} {H:Hp} {Q:VK}:rI C g (.int i) (.int j) H Q=(C i j/\Q (g i j) H):=propext ⟨λ⟨_,_,e1,e2,h⟩=>by cases e1;cases e2;exact h,λh=>⟨_,_,rfl,rfl,h⟩⟩
theorem yP {c:Bool} {P:Bool->Prop}:(∃i,V.bl c=V.bl i/\P i)=P c:=propext ⟨λ⟨_,e,h⟩=>by cases e;exact h,λh=>⟨_,rfl,h⟩⟩
theorem QM {c:Addr} {P:Addr->Prop}:(∃i,V.ref c=V.ref i/\P i)=P c:=propext ⟨λ⟨_,e,h⟩=>by cases e;exact h,λh=>⟨_,rfl,h⟩⟩
end L2
namespace L2
open PySem PySem.Spec PyProof.Rows
section
open PySem.Builtin PySem.Builtin.Str
end
end L2
namespace Hd
open PySem PySem.W PySem.Calls PyProof.Rows
noncomputable def bK (tb:String->Option Builtin) (p:Program) (w:World) (n0:Nat) (ann:Option Value):Nat->SharedT->Thread->Option SharedT
 |0,_,_=>none
 |n+1,s,t=>match through t with
  |true=>some s
  |false=>match stepOk n0 ann t with
   |false=>none
   |true=>match stepT (denote tb) p w s t with
    |some (s',t')=>bK tb p w n0 ann n s' t'
    |none=>none
theorem hZ {tb:String->Option Builtin} {p:Program} {w:World} {n0:Nat} {ann:Option Value}:∀{n:Nat} {s r:SharedT} {t:Thread},bK tb p w n0 ann n s t=some r->topRun tb p w n0 ann n s.abs t=some r.abs
 |0,_,_,_,h=>by cases h
 |n+1,s,r,t,h=>by
  unfold bK at h
  unfold topRun
  cases he:through t with
  |true=>rw[he] at h;cases h;rfl
  |false=>
   rw[he] at h
   cases hk:stepOk n0 ann t with
   |false=>rw[hk] at h;cases h
   |true=>
    rw[hk] at h
    cases hs:stepT (denote tb) p w s t with
    |none=>rw[hs] at h;cases h
    |some x=>obtain⟨s2,t2⟩:=x;rw[hs] at h;rw[stepT_spec hs];exact hZ h
noncomputable def zP:List Obj->Nat->BT->BT
 |[],_,t=>t
 |o::l,n,t=>zP l (n+1) (t.ins n o)
noncomputable def BP (P:Params):BT:=zP (boot_heap P).objs.toList 0 .nil
noncomputable def cK (w:World) (os:OsState):SharedT:=⟨BP w.params,(boot_heap w.params).objs.size,(boot_heap w.params).life, #[],boot_drawn,boot_toks,os⟩
theorem O7 (w:World) (os:OsState):(cK w os).abs=⟨boot_heap w.params, #[],boot_drawn,boot_toks,os⟩:=by kernel_rfl
theorem P7 (w:World):((boot_heap w.params).isNs mainGlobals&&(#[]:Array GenState).size == 0)=true:=by kernel_rfl
noncomputable abbrev CP (w:World):Option Value:=(boot_heap w.params).nsMap mainGlobals "__annotations__"
noncomputable def look {α:Type} (p:Program) (Yf:Shared->α) (H0:Heap) (s:Shared):Bool×α:=
 (staticsOk (importedModules p.main.body) H0 s.heap&&namesBound p s.heap&&gensDone s&&laidKept H0 s.heap,Yf s)
noncomputable def iZ (p:Program) (N:Nat) (w:World) (os:OsState):Option SharedT:=bK treeTable p w (boot_heap w.params).objs.size (CP w) N (cK w os) (topStub p)
noncomputable def RM {α:Type} (p:Program) (Yf:Shared->α) (N:Nat) (w:World) (os:OsState):=(iZ p N w os).map λs=>look p Yf (boot_heap w.params) s.abs
noncomputable def SM (p q:Program) (loose:List Str) (Xt:Shared->Bool) (N:Nat) (w:World) (os:OsState):=(iZ p N w os).map λs=>openSeen q loose (importedModules p.main.body) Xt true s.abs
theorem Q7 {p q:Program} {loose:List Str} {Xt:Shared->Bool} {α:Type} {Yf:Shared->α} {Ya:World->α} {N:Nat}
  (e:opening p=plainProg p.main.scope.names) (hN:Nat.ble 600 N=true) (f:∀s,fenceModules? p s=some s)
  (one:∀(w:World) (os:OsState),RM p Yf N w os=some (true,Ya w)) (two:∀(w:World) (os:OsState),SM p q loose Xt N w os=some (openGood q loose)):LeftO p q loose Xt Yf Ya N:=λw=>by
 obtain⟨⟨h,gs,d,k,os⟩,e1,e2⟩:=eC.mp (boot_open e hN f w)
 obtain⟨rfl,rfl,rfl,rfl⟩:h=boot_heap w.params/\gs= #[]/\d=boot_drawn/\k=boot_toks:=by simpa using e2
 obtain⟨sT,r,l⟩:=eC.mp (one w os)
 obtain⟨sT',r',l2⟩:=eC.mp (two w os)
 obtain rfl:sT=sT':=cA (r.symm.trans r')
 have r:=hZ r
 rw[O7] at r
 obtain⟨l1,l3⟩:_/\_:=by simpa only[look,Prod.mk.injEq] using l
 have t:topFrom treeTable p w N ⟨boot_heap w.params, #[],boot_drawn,boot_toks,os⟩=some sT.abs:=by
  unfold topFrom
  dsimp only
  rw[P7 w,r]
  show (match staticsOk (importedModules p.main.body) (boot_heap w.params) sT.abs.heap&&namesBound p sT.abs.heap&&gensDone sT.abs&&laidKept (boot_heap w.params) sT.abs.heap with|true=>_|false=>_)=_
  rw[l1]
 unfold openEnds
 rw[e1]
 show (topFrom treeTable p w N _).map _=_
 rw[t]
 exact congrArg some (eE l2 l3)
end Hd
namespace Hd
open PySem PySem.W
noncomputable def jZ:Nat->Nat->List Nat
 |0,_=>[]
 |k+1,n=>match Nat.beq n 0 with
  |true=>[]
  |false=>Nat.sub (n % 256) 1::jZ k (n / 256)
noncomputable def S (n:Nat):Str:=⟨⟨jZ 200 n⟩⟩
noncomputable def R7 (P:Params) (x:Str) (t:Nat) (v:Value):DictEntry:=⟨PyData.keyHash P x,.str x t,v⟩
noncomputable def dO (n:Nat) (l:List DictEntry):Obj:=⟨.type "dict",none,.dict ⟨l⟩ n, #[]⟩
noncomputable def tO (l:List Value):Obj:=⟨.type "tuple",none,.seq ⟨l⟩ 0, #[]⟩
noncomputable def cO (l:List Value):Obj:=⟨.type "code",none,.fields ⟨l⟩, #[]⟩
end Hd
namespace Hd
open PySem PySem.W PySem.Calls PyProof.Rows
noncomputable def kZ (tb:String->Option Builtin) (p:Program) (w:World) (n0:Nat) (ann:Option Value):Nat->SharedT->Thread->Option (SharedT×Thread)
 |0,s,t=>some (s,t)
 |n+1,s,t=>match through t with
  |true=>none
  |false=>match stepOk n0 ann t with
   |false=>none
   |true=>match stepT (denote tb) p w s t with
    |some (s',t')=>kZ tb p w n0 ann n s' t'
    |none=>none
end Hd
namespace Hd
open PySem PySem.W PySem.Calls PyProof.Rows
theorem tw_run:(λ(_:(String->Option Builtin)->Program->World->Nat->Option Value->Nat->SharedT->Thread->Option SharedT)=>true) bK=true:=by k_qdec
theorem tw_go:(λ(_:(String->Option Builtin)->Program->World->Nat->Option Value->Nat->SharedT->Thread->Option (SharedT×Thread))=>true) kZ=true:=by k_qdec
theorem tw_boot:(λ(_:World->OsState->SharedT) (_:World->Option Value)=>true) cK CP=true:=by k_qdec
theorem tw_look:(λ(_:{α:Type}->Program->(Shared->α)->Heap->Shared->Bool×α)=>true) @look=true:=by k_qdec
theorem tw_once:(λ(_:{α:Type}->Program->(Shared->α)->Nat->World->OsState->Option (Bool×α))=>true) @RM=true:=by k_qdec
theorem tw_seen:(λ(_:Program->Program->List Str->(Shared->Bool)->Nat->World->OsState->Option _)=>true) SM=true:=by k_qdec
end Hd
namespace L2
open PySem PySem.Spec PyProof.Rows
structure sH (k:Nat) (A:Around):Prop where
 dp:A.depth+3 * k+5 < recursionLimit
 un:A.units+16 * k+200 < cLine
theorem CF.h {k:Nat} {A:Around} (r:CF k A):sH k A:=⟨r.dp,r.un⟩
theorem sH.mono {j k:Nat} {A:Around} (r:sH k A) (h:j<=k):sH j A:=⟨by have:=r.dp;omega,by have:=r.un;omega⟩
theorem sH.deeper {k:Nat} {A:Around} (r:sH (k+1) A) (env:Env):sH k (A.deeper env):=
 ⟨by have:=r.dp;show A.depth+1+3 * k+5 < _;omega,by have:=r.un;show A.units+3+16 * k+200 < _;omega⟩
noncomputable def DP (P:Program) (w:World) (K:PySem.W.Frag) (mg:Str->Option Value) (base:Heap) (N:List Str) (qual:Str) (scope:Scope) (f:Addr) (cd:Value) (A:Around) (outer:List Env) (s:Shared) (H:Hp) (E:XK):Cx:=
 {gG (wI P w) P w K mg base N qual scope f cd A outer s H E with calm:=false}
theorem V7 {P:Program} {w:World} {K:PySem.W.Frag} {mg:Str->Option Value} {base:Heap} {N:List Str} {qual:Str} {scope:Scope} {f:Addr} {cd:Value} {A:Around} {outer:List Env} {s:Shared} {H:Hp} {E:XK}:(DP P w K mg base N qual scope f cd A outer s H E).K=K:=rfl
end L2
namespace L2
open PySem PySem.Spec PyProof.Rows
noncomputable def eK (K:PySem.W.Frag) (fd:FuncData) (ps ks:List Str):Prop:=∀(s:Shared) (us:List Value) (a b:Value),K.In s.heap->us.length+2=ps.length->BindsTo s fd ⟨us,ks.zip [a,b]⟩ (ps.zip (us++[b,a]))
noncomputable def BL (K:PySem.W.Frag) (C:Addr) (m qual:Str) (st:Stmt) (ps ks:List Str):Prop:=∃f fd,RI K C m f/\ZJ K m qual st f fd/\eK K fd ps ks
noncomputable def TM (P:Program) (w:World) (K:PySem.W.Frag) (mg:Str->Option Value) (base:Heap) (C:Addr) (m:Str) (k:Nat) (ps ks:List Str) (sp:Sp):Prop:=
 ∃f fd,RI K C m f/\eK K fd ps ks/\NG P w K mg base (wI P w) k f fd ps sp
theorem BL.have {P:Program} {w:World} {K:PySem.W.Frag} {mg:Str->Option Value} {base:Heap} {C:Addr} {m qual:Str} {st:Stmt} {N ps ks:List Str} {k:Nat} {sp:Sp} (R:BL K C m qual st ps ks) (S:tE N ps (qE st)) (len:∀vs H Q E,sp vs H Q E->vs.length=ps.length)
  (hbody:jI P w K mg base qual st N k sp):TM P w K mg base C m (k+1) ps ks sp:=
 let ⟨f,fd,hm,F,hb⟩:=R
 ⟨f,fd,hm,hb,F.okE S len hbody⟩
end L2
namespace L2
open PySem PySem.Spec PyProof.Rows
end L2
namespace L2
open PySem PySem.Spec PyProof.Rows
end L2
namespace L2
open PySem PySem.Spec PyProof.Rows
section
variable {prog:Program} {w:World} {A:Around} {E:Value->Shared->Prop} {s:Shared}
end
section
variable {X:Cx}
end
end L2
namespace L2
open PySem PySem.Spec PyProof.Rows
section
variable {prog:Program} {w:World} {A:Around} {E:Value->Shared->Prop} {s:Shared}
end
section
variable {X:Cx}
end
end L2
namespace L2
open PySem PySem.Spec PyProof.Rows
section
variable {X:Cx} {pins:List (Addr×Obj)} {σ:List (Option V)} {H:Hp} {s:Shared} {a:Addr}
theorem wE.freezeT {kvs:List (List Key×V)} (I:wE X pins σ H s) (e:H a=some (.dT kvs)):∃o,s.heap.get? a=some o/\wE X pins σ (upd H a (.frz o (.dT kvs))) s:=by
 obtain⟨z,hd,xs,rel,o,es,ep,ho,r⟩:=lO I.hok e
 have st:NE X.prog X.w (upd H a (.frz o (.dT kvs))) s.heap a (.dT kvs):=(I.hok a _ e).stay (λ_ _ _ q=>q) (λc q=>by rw[AE (λz=>by rw[z,e] at q;cases q)];exact q) (λc xs q=>by rw[AE (λz=>by rw[z,e] at q;cases q)];exact q)
 refine⟨o,ho,I.rewrite e (λ_ z=>by cases z) (λ_ z=>by cases z) (λw hw h=>?_) ⟨ho,st⟩⟩
 rcases I.still hw h with ⟨_,_,q⟩|⟨_,q⟩|⟨_,q⟩<;>(rw[e] at q;cases q)
theorem wE.thawT {kvs:List (List Key×V)} {o:Obj} (I:wE X pins σ H s) (e:H a=some (.frz o (.dT kvs))) (h0:∀o u,X.H₀ a≠some (.frz o u)):wE X pins σ (upd H a (.dT kvs)) s:=by
 have ok:NE X.prog X.w H s.heap a (.dT kvs):=(I.hok a _ e).2
 have st:NE X.prog X.w (upd H a (.dT kvs)) s.heap a (.dT kvs):=ok.stay (λ_ _ _ q=>q) (λc q=>by rw[AE (λz=>by rw[z,e] at q;cases q)];exact q) (λc xs q=>by rw[AE (λz=>by rw[z,e] at q;cases q)];exact q)
 refine I.rewrite e (λ_ z=>by cases z) (λ_ z=>by cases z) (λw hw h=>?_) st
 rcases h with ⟨_,_,rfl⟩|h
 ·exact h0 _ _ hw
 ·rcases I.still hw (.inr h) with ⟨o',z',q⟩|⟨_,q⟩|⟨_,q⟩
  ·rcases h with ⟨xs,rfl⟩|⟨ps,rfl⟩
   ·have:=I.base.tups a xs hw;rw[e] at this;cases this
   ·obtain⟨m,this⟩:=I.base.tbls a ps hw;rw[e] at this;cases this
  ·rw[e] at q;cases q
  ·rw[e] at q;cases q
end
noncomputable def wG (a:Addr) (H:Hp):Hp:=match H a with
 |some (.frz _ (.dT kvs))=>upd H a (.dT kvs)
 |_=>H
theorem X7 {a:Addr} {H:Hp} {o:Obj} {kvs:List (List Key×V)} (h:H a=some (.frz o (.dT kvs))):wG a H=upd H a (.dT kvs):=by unfold wG;rw[h]
theorem wE.thawedT {X:Cx} {pins:List (Addr×Obj)} {σ:List (Option V)} {H:Hp} {s:Shared} {a:Addr} (I:wE X pins σ H s) (h0:∀o u,X.H₀ a≠some (.frz o u)):wE X pins σ (wG a H) s:=by
 unfold wG
 split
 ·rename_i h;exact I.thawT h h0
 ·exact I
noncomputable def aJ (a:Addr) (D:JG):JG:={D with nx:=λσ H=>D.nx σ (wG a H),bk:=λσ H=>D.bk σ (wG a H),ct:=λσ H=>D.ct σ (wG a H),rt:=λv H=>D.rt v (wG a H)}
noncomputable def UM (X:Cx) (t:TS):TS:=λD σ H=>∃a,(∀o u,X.H₀ a≠some (.frz o u))/\t (aJ a D) σ H
theorem Y7 {X:Cx} {st:Stmt} {t:TS} (h:PS X st t):PS X st (UM X t):=by
 intro pins s σ H D I hh
 obtain⟨a,h0,hh⟩:=hh
 refine LB (h pins s σ H (aJ a D) I hh) (λf s' q=>?_) λ_ _ e=>e
 unfold SP at q ⊢
 cases f with
 |next=>obtain⟨σ',H',I',q⟩:=q;exact⟨σ',_,I'.thawedT h0,q⟩
 |brk=>obtain⟨σ',H',I',q⟩:=q;exact⟨σ',_,I'.thawedT h0,q⟩
 |cont=>obtain⟨σ',H',I',q⟩:=q;exact⟨σ',_,I'.thawedT h0,q⟩
 |ret u=>obtain⟨v,σ',H',I',r,q⟩:=q;exact⟨v,σ',_,I'.thawedT h0,r,q⟩
noncomputable def VM (a:Addr) (o:Obj) (kvs:List (List Key×V)):It:=
 ⟨λi H=>H a=some (.frz o (.dT kvs))/\i < kvs.length,λi H x H'=>H'=H/\∃k v b,kvs[i]?=some (k,v)/\x=.ref b/\H b=some (.tup (k.map kV)),λi H=>H a=some (.frz o (.dT kvs))/\i=kvs.length⟩
theorem CL {H:Hp}:∀{kvs:List (List Key×V)} {ys:List (List Key×Addr×Value)},KT H kvs ys->∀(i:Nat) {y:List Key×Addr×Value},ys[i]?=some y->∃k v,kvs[i]?=some (k,v)/\H y.2.1=some (.tup (k.map kV))
 |_,_,.nil,i,y,h=>by simp at h
 |_,_,.cons (a:=p) r t,0,y,h=>by
  have h:=cA h
  subst h
  exact⟨p.1,p.2,rfl,r.2.1⟩
 |_,_,.cons r t,i+1,y,h=>CL t i h
theorem YS {X:Cx} {pins:List (Addr×Obj)} {σ:List (Option V)} {H:Hp} {s:Shared} {a:Addr} {o:Obj} {kvs:List (List Key×V)} {ep:Nat} {es:Array DictEntry} (I:wE X pins σ H s) (e:H a=some (.frz o (.dT kvs))) (hd:o.data=.dict es ep):
  bH s.heap a es ep/\(a == sysModules)=false/\es.size=kvs.length/\∀i (h:i < es.size),∃k v b,kvs[i]?=some (k,v)/\es[i].key=.ref b/\H b=some (.tup (k.map kV)):=by
 have ho:=(I.hok a _ e).1
 obtain⟨z,nd,ys,rel,o',es',ep',e0,ec,ed,he,_⟩:=IS I.hok (.inr ⟨o,e⟩)
 rw[ho] at e0
 cases e0
 rw[hd] at ed
 cases ed
 have hsz:=size_of_entries he
 have hlen:=Paired.length rel
 refine⟨⟨o,ho,ec,hd⟩,nd,by omega,λi hi=>?_⟩
 have e3:=entry_at he i
 rw[GB hi,bA (by omega)] at e3
 have e3:=cA e3
 obtain⟨k,v,h1,h2⟩:=CL rel i (bA (show i < ys.length by omega))
 exact⟨k,v,_,h1,by rw[e3];rfl,h2⟩
theorem Z7 {P:Program} {w:World} {K:PySem.W.Frag} {tg:Expr} (a it:Addr) (o:Obj) (kvs:List (List Key×V)) (ep:Nat) {es:Array DictEntry} (he:o.data=.dict es ep):NI P w K tg (VM a o kvs) [it] it (λi h=>h.IsKeyIter it a i es.size ep) where
 mem:=by simp
 obj:=λi h st b hb=>by
  have e:b=it:=by simpa using hb
  subst e
  obtain⟨o,e,c,d⟩:=st
  exact⟨o,e,λv z=>by rw[d] at z;cases z⟩
 keep:=λi h h' st k=>st.at λo e=>k it (by simp) o e
 item:=by
  intro X hP hw hK hc i pins s σ H E I hf st hg
  subst hP hw hK
  obtain⟨hg,hi⟩:=hg
  obtain⟨raw,_,hsz,hat⟩:=YS I hg he
  obtain⟨f0,f1,f2,f3,f4,f5⟩:=hf it (by simp)
  have hi2:i < es.size:=by omega
  obtain⟨k,v,b,hk,hkey,hb⟩:=hat i hi2
  refine fZ st raw hi2 λh' st' sb=>?_
  have I1:wE X pins σ H {s with heap:=h'}:=I.turned (t':=s.toks) (λb o hb e=>(sb.2 b hb).trans e) f0 f1 f3 f4 f5
  obtain⟨ob,e,c,d⟩:=id st'
  exact⟨_,rfl,sS (s:={s with heap:=h'}) e c d (by decide) ⟨.ref b,H,I1,by rw[hkey];rfl,⟨rfl,k,v,b,hk,rfl,hb⟩,st',λb hb=>(hf b hb).1⟩⟩
 done:=by
  intro X hP hw hK hc i pins s σ H E I hf st hg
  subst hP hw hK
  obtain⟨hg,hi⟩:=hg
  obtain⟨raw,_,hsz,hat⟩:=YS I hg he
  obtain⟨f0,f1,f2,f3,f4,f5⟩:=hf it (by simp)
  obtain rfl:i=es.size:=by omega
  exact gZ (I.ok.hd hc) st raw λh' eb=>⟨rfl,I.turned (t':=s.toks) (λb o hb e=>eb b o hb e) f0 f1 f3 f4 f5⟩
 self:=λ_ _ _ _ _ st h=>wpAny_pyIter_keyiter st h
noncomputable def fK (tl:TE):TI:=λσ H R=>tl σ H λx H1=>∃a kvs,x=.ref a/\H1 a=some (.dT kvs)/\∀o,R (VM a o kvs) (upd H1 a (.frz o (.dT kvs)))
theorem f8 {X:Cx} {tg l:Expr} {tl:TE} (hl:PE X l tl):PI X tg l (fK tl):=by
 intro pins s σ H R I h
 refine mF (hl pins s σ H _ I h) λv s1 ⟨x,H1,I1,r1,q1⟩=>?_
 obtain⟨a,kvs,e,hq,q⟩:=q1
 subst e
 cases r1
 obtain⟨o,ho,I2⟩:=I1.freezeT hq
 obtain⟨_,_,vs,rel,o',es,ep,ho',c,d,r⟩:=lO I1.hok hq
 rw[ho] at ho'
 cases ho'
 obtain⟨raw,hd,hsz,_⟩:=YS I2 bF d
 refine eZ hd raw ?_
 have hfr:upd H1 a (.frz o (.dT kvs)) s1.heap.objs.size=none:=I2.hok.fresh (pA _)
 refine⟨s1.heap.objs.size,[s1.heap.objs.size],_,_,upd H1 a (.frz o (.dT kvs)),rfl,I2.kept (t':=s1.toks) λb o e=>sA _ e,Z7 a _ o kvs ep d,⟨_,OA _ rfl,rfl,rfl⟩,λb hb=>?_,q o⟩
 have e:b=s1.heap.objs.size:=by simpa using hb
 subst e
 exact I2.fpOk (pA _) hfr
end L2
namespace L2
open PySem PySem.Spec PyProof.Rows
section
open PySem.W
noncomputable def WM (n:Nat) {α:Type} (R:α->Prop):KasT α->Prop
 |.ret a=>R a
 |.ask i j k=>i < n/\j < n/\∀b,WM n R (k b)
noncomputable def In (p:Array Nat) (n:Nat):Prop:=0 < n/\∀x∈p.toList,x < n
theorem In.at {p:Array Nat} {n:Nat} (h:In p n) (i:Nat):p.getD i 0 < n:=by
 rw[cC]
 cases e:p[i]? with
 |none=>exact h.1
 |some x=>exact h.2 x (dA (by rw[LA];exact e))
structure Od (lt:Nat->Nat->Bool) (n:Nat):Prop where
 tr:∀i j k,i < n->j < n->k < n->lt i j=true->lt j k=true->lt i k=true
 ir:∀i,i < n->lt i i=false
 to:∀i j,i < n->j < n->i≠j->lt i j=true\/lt j i=true
variable {lt:Nat->Nat->Bool} {n:Nat}
structure Pm (p:Array Nat) (n:Nat):Prop where
 sz:p.size=n
 lt:∀i,i < n->p.getD i 0 < n
 ne:∀i j,i < n->j < n->i≠j->p.getD i 0≠p.getD j 0
 pe:p.Perm (List.range n).toArray
noncomputable def Up (lt:Nat->Nat->Bool) (p:Array Nat) (m:Nat):Prop:=∀i j,i < j->j < m->lt (p.getD i 0) (p.getD j 0)=true
noncomputable def Dn (lt:Nat->Nat->Bool) (p:Array Nat) (m:Nat):Prop:=∀i j,i < j->j < m->lt (p.getD j 0) (p.getD i 0)=true
theorem Up.succ {p:Array Nat} {m:Nat} (o:Od lt n) (hp:Pm p n) (h:Up lt p m) (h1:1<=m) (hm:m < n) (c:lt (p.getD (m - 1) 0) (p.getD m 0)=true):Up lt p (m+1):=λi j hij hj=>by
 rcases (by omega:j < m\/j=m) with hj|rfl
 ·exact h i j hij hj
 ·rcases (by omega:i < j - 1\/i=j - 1) with hi|rfl
  ·exact o.tr _ _ _ (hp.lt _ (by omega)) (hp.lt _ (by omega)) (hp.lt _ hm) (h i (j - 1) hi (by omega)) c
  ·exact c
theorem Dn.succ {p:Array Nat} {m:Nat} (o:Od lt n) (hp:Pm p n) (h:Dn lt p m) (h1:1<=m) (hm:m < n) (c:lt (p.getD m 0) (p.getD (m - 1) 0)=true):Dn lt p (m+1):=λi j hij hj=>by
 rcases (by omega:j < m\/j=m) with hj|rfl
 ·exact h i j hij hj
 ·rcases (by omega:i < j - 1\/i=j - 1) with hi|rfl
  ·exact o.tr _ _ _ (hp.lt _ hm) (hp.lt _ (by omega)) (hp.lt _ (by omega)) c (h i (j - 1) hi (by omega))
  ·exact c
theorem TH {p:Array Nat} (o:Od lt n) (hp:Pm p n) {i j:Nat} (hi:i < n) (hj:j < n) (ne:i≠j) (c:lt (p.getD i 0) (p.getD j 0)=false):lt (p.getD j 0) (p.getD i 0)=true:=by
 rcases o.to _ _ (hp.lt i hi) (hp.lt j hj) (hp.ne i j hi hj ne) with h|h
 ·rw[h] at c;cases c
 ·exact h
end
end L2
namespace L2
open PySem PySem.Spec PyProof.Rows
noncomputable def SG:List Key->List Key->Bool
 |[.inr s,.inl a,.inl b],[.inr t,.inl c,.inl d]=>if s=t then (if a=c then decide (b < d) else decide (a < c)) else decide (s.cps.toList < t.cps.toList)
 |_,_=>false
noncomputable def uG (k:List Key):Prop:=∃s a b,k=[.inr s,.inl a,.inl b]
theorem lZ {s t u:Str} (h1:s.cps.toList < t.cps.toList) (h2:t.cps.toList < u.cps.toList):s.cps.toList < u.cps.toList:=List.lt_trans h1 h2
theorem g8 {s t:Str} (h:s.cps.toList=t.cps.toList):s=t:=by
 cases s;cases t
 rw[Str.mk.injEq]
 exact Array.toList_inj.mp h
theorem XM {s t:Str} (h:s≠t):s.cps.toList < t.cps.toList\/t.cps.toList < s.cps.toList:=by
 by_cases c:s.cps.toList < t.cps.toList
 ·exact .inl c
 ·by_cases d:t.cps.toList < s.cps.toList
  ·exact .inr d
  ·exact absurd (g8 (List.le_antisymm (List.not_lt.mp d) (List.not_lt.mp c))) h
theorem YM {s:Str}:¬s.cps.toList < s.cps.toList:=List.lt_irrefl _
theorem mZ {k:List Key}:SG k k=false:=by
 by_cases h:uG k
 ·obtain⟨s,a,b,rfl⟩:=h
  show (if s=s then (if a=a then decide (b < b) else decide (a < a)) else decide (s.cps.toList < s.cps.toList))=false
  rw[iA rfl,iA rfl]
  simp
 ·cases e:SG k k with
  |false=>rfl
  |true=>
   unfold SG at e
   split at e
   ·exact absurd ⟨_,_,_,rfl⟩ h
   ·cases e
theorem ZS {x y:List Key} (hx:uG x) (hy:uG y) (ne:x≠y):SG x y=true\/SG y x=true:=by
 obtain⟨s,a,b,rfl⟩:=hx
 obtain⟨t,c,d,rfl⟩:=hy
 show (if s=t then (if a=c then decide (b < d) else decide (a < c)) else decide (s.cps.toList < t.cps.toList))=true\/(if t=s then (if c=a then decide (d < b) else decide (c < a)) else decide (t.cps.toList < s.cps.toList))=true
 by_cases e1:s=t
 ·subst e1
  rw[iA rfl,iA rfl]
  by_cases e2:a=c
  ·subst e2
   rw[iA rfl,iA rfl]
   have:b≠d:=λz=>ne (by rw[z])
   simp only[AB]
   omega
  ·rw[fA e2,fA (Ne.symm e2)]
   simp only[AB]
   omega
 ·rw[fA e1,fA (Ne.symm e1)]
  simp only[AB]
  exact XM e1
theorem aT {x y z:List Key} (hx:uG x) (hy:uG y) (hz:uG z) (h1:SG x y=true) (h2:SG y z=true):SG x z=true:=by
 obtain⟨s,a,b,rfl⟩:=hx
 obtain⟨t,c,d,rfl⟩:=hy
 obtain⟨u,e,f,rfl⟩:=hz
 have h1:(if s=t then (if a=c then decide (b < d) else decide (a < c)) else decide (s.cps.toList < t.cps.toList))=true:=h1
 have h2:(if t=u then (if c=e then decide (d < f) else decide (c < e)) else decide (t.cps.toList < u.cps.toList))=true:=h2
 show (if s=u then (if a=e then decide (b < f) else decide (a < e)) else decide (s.cps.toList < u.cps.toList))=true
 by_cases e1:s=t
 ·subst e1
  rw[iA rfl] at h1
  by_cases e2:s=u
  ·subst e2
   rw[iA rfl] at h2 ⊢
   by_cases c1:a=c
   ·subst c1
    rw[iA rfl] at h1
    by_cases c2:a=e
    ·subst c2
     rw[iA rfl] at h2 ⊢
     simp only[AB] at h1 h2 ⊢
     omega
    ·rw[fA c2] at h2 ⊢
     exact h2
   ·rw[fA c1] at h1
    simp only[AB] at h1
    by_cases c2:c=e
    ·subst c2
     rw[fA c1]
     simpa using h1
    ·rw[fA c2] at h2
     simp only[AB] at h2
     rw[fA (by omega)]
     simp only[AB]
     omega
  ·rw[fA e2] at h2 ⊢
   exact h2
 ·rw[fA e1] at h1
  simp only[AB] at h1
  by_cases e2:t=u
  ·subst e2
   rw[fA e1]
   simpa using h1
  ·rw[fA e2] at h2
   simp only[AB] at h2
   have h3:=lZ h1 h2
   rw[fA (λz=>by rw[z] at h1;exact YM (lZ h1 h2))]
   simpa using h3
theorem nZ:∀{a b:List (List Key)},a.Perm b->(∀k∈a,uG k)->a.Pairwise (SG · ·=true)->b.Pairwise (SG · ·=true)->a=b
 |[],b,h,_,_,_=>(List.Perm.nil_eq h)
 |x::a,b,h,ht,h1,h2=>by
  have hx:x∈b:=h.mem_iff.mp (wA ..)
  cases b with
  |nil=>cases hx
  |cons y b=>
   have hty:uG y:=ht y (h.mem_iff.mpr (wA ..))
   have htx:uG x:=ht x (wA ..)
   have e:x=y:=by
    rcases xA.mp hx with e|hx
    ·exact e
    ·have hy:y∈x::a:=h.mem_iff.mpr (wA ..)
     rcases xA.mp hy with e|hy
     ·exact e.symm
     ·have a1:=(xB.mp h1).1 y hy
      have a2:=(xB.mp h2).1 x hx
      have:=aT htx hty htx a1 a2
      rw[mZ] at this
      cases this
   subst e
   rw[nZ (List.perm_cons x |>.mp h) (λk hk=>ht k (jA _ hk)) (xB.mp h1).2 (xB.mp h2).2]
noncomputable def yF (h:Heap) (v:Value) (k:List Key):Prop:=∃x o xs n s a b t1 t2 t3,v=.ref x/\h.get? x=some o/\o.cls=.type "tuple"/\o.data=.seq xs n/\xs.toList=[.str s t1,.int a t2,.int b t3]/\k=[.inr s,.inl a,.inl b]
theorem yF.tri {h:Heap} {v:Value} {k:List Key} (x:yF h v k):uG k:=let ⟨_,_,_,_,s,a,b,_,_,_,_,_,_,_,_,e⟩:=x;⟨s,a,b,e⟩
theorem ZM {prog:Program} {w:World} {A:Around} {E:Value->Shared->Prop} {s:Shared} {Q:Bool->Shared->Prop} {u v:Value} {k l:List Key} (hu:yF s.heap u k) (hv:yF s.heap v l) (q:Q (SG k l) s):wpAny (model prog w) A (keyLt' (tuples' true) u v) Q E s:=by
 obtain⟨x,o,xs,n,s1,a,b,t1,t2,t3,rfl,g1,g2,g3,g4,rfl⟩:=hu
 obtain⟨y,o',ys,n',s2,c,d,u1,u2,u3,rfl,f1,f2,f3,f4,rfl⟩:=hv
 refine PySem.W.kat_lt g1 g3 f1 f3 ?_
 rw[g4,f4]
 have q:Q (if s1=s2 then (if a=c then decide (b < d) else decide (a < c)) else decide (s1.cps.toList < s2.cps.toList)) s:=q
 show PySem.W.KatLex prog w A true _ Q [(.str s1 t1,.str s2 u1),(.int a t2,.int c u2),(.int b t3,.int d u3)] 0 s
 refine PySem.W.kat_cons (wpAny_eqBool_str ?_)
 unfold PySem.W.KatGo
 by_cases e1:s1=s2
 ·rw[AA e1,iA rfl]
  rw[iA e1] at q
  refine PySem.W.kat_cons (wpAny_eqBool_int ?_)
  unfold PySem.W.KatGo
  by_cases e2:a=c
  ·rw[show (a == c)=true by simpa using e2,iA rfl]
   rw[iA e2] at q
   refine PySem.W.kat_cons (wpAny_eqBool_int ?_)
   unfold PySem.W.KatGo
   by_cases e3:b=d
   ·rw[show (b == d)=true by simpa using e3,iA rfl]
    refine PySem.W.kat_nil ?_
    have l1:xs.size=3:=by rw[<-zA,g4];rfl
    have l2:ys.size=3:=by rw[<-zA,f4];rfl
    rw[l1,l2]
    rw[e3] at q
    simpa using q
   ·rw[show (b == d)=false by simpa using e3,fA (by simp)]
    exact PySem.W.kat_one _ _ (PySem.P.lt_int q)
  ·rw[show (a == c)=false by simpa using e2,fA (by simp)]
   rw[fA e2] at q
   exact PySem.W.kat_one _ _ (PySem.P.lt_int q)
 ·rw[vA e1,fA (by simp)]
  rw[fA e1] at q
  show wpAny (model prog w) A (oneLt' true _ _) Q _ s
  rw[<-keyLt'_oneType]
  exact PySem.W.kas_lt_str q
theorem bT {α β:Type} {F:α->β->Prop}:∀{xs:List α} {ys:List β} {i:Nat} {x:α},Paired F xs ys->xs[i]?=some x->∃y,ys[i]?=some y/\F x y
 |_,_,_,_,.nil,e=>by simp at e
 |_,_,0,_,.cons r _,e=>by simp at e;subst e;exact⟨_,rfl,r⟩
 |_,_,i+1,x,.cons _ t,e=>by
  obtain⟨u,h1,h2⟩:=bT (i:=i) (x:=x) t (by simpa using e)
  exact⟨u,by simpa using h1,h2⟩
theorem cT {h h':Heap} {v:Value} {k:List Key} (x:yF h v k) (hk:∀y o,h.get? y=some o->o.cls=.type "tuple"->h'.get? y=some o):yF h' v k:=by
 obtain⟨x,o,xs,n,s1,a,b,t1,t2,t3,e,g1,g2,r⟩:=x
 exact⟨x,o,xs,n,s1,a,b,t1,t2,t3,e,hk _ _ g1 g2,g2,r⟩
theorem oZ {h:Heap}:∀{vs:List Value} {ks:List (List Key)},Paired (yF h) vs ks->∃fs,PySem.W.KatTups h vs fs/\fs.length=vs.length/\∀f∈fs,∃s t,f=.str s t
 |_,_,.nil=>⟨[],PySem.W.KatTups.nil,rfl,λf hf=>by cases hf⟩
 |_,_,.cons ⟨x,o,xs,n,s1,a,b,t1,t2,t3,e,g1,g2,g3,g4,_⟩ r=>by
  obtain⟨fs,h1,h2,h3⟩:=oZ r
  subst e
  refine⟨.str s1 t1::fs,PySem.W.KatTups.cons g1 g2 g3 (by rw[<-LA,g4];rfl) h1,by rw[WA,WA,h2],λf hf=>?_⟩
  rcases xA.mp hf with rfl|hf
  ·exact⟨_,_,rfl⟩
  ·exact h3 f hf
section
variable {prog:Program} {w:World} {A:Around} {E:Value->Shared->Prop} {s:Shared}
theorem i8 {a:Addr} {vs:List Value} {n:Nat} {P:Fin->Shared->Prop} (ho:s.heap.get? a=some (seqObj "list" vs.toArray n)) (h2:vs.length < 2)
  (h:P (.done (.ret .none)) {s with heap:=sortedHeap s.heap a vs vs.toArray}):wpAny (model prog w) A (Builtin.«list.sort» ⟨[.ref a],[]⟩) P E s:=by
 rw[list_sort_plain]
 have ha:a < s.heap.objs.size:=HA ho
 refine gA (listItems_at ho rfl ?_)
 refine gA (listUpdate_at ho rfl ?_)
 obtain⟨e1,ho1⟩:∃e1,(s.heap.update a (Obj.mapSeq λ_=> #[])).get? a=some (seqObj "list" #[] e1):=⟨_,get?_update_seq ho (λ_=> #[])⟩
 refine gA (seqEpoch_at ho1 rfl ?_)
 refine gA (wpAny_newTuple ?_)
 refine gA (aE ?_)
 refine IB ?_
 have ho6:(((s.heap.update a (Obj.mapSeq λ_=> #[])).push (seqObj "tuple" vs.toArray 0)).push (seqObj "list" #[] 0)).get? a=some (seqObj "list" #[] e1):=by
  rw[nD _ _ _ (by rw[size_push',AD];exact VA (rD ha)),nD _ _ _ (by rw[AD];exact VA ha)]
  exact ho1
 show wpAny (model prog w) A _ P E {s with heap:=((s.heap.update a (Obj.mapSeq λ_=> #[])).push (seqObj "tuple" vs.toArray 0)).push (seqObj "list" #[] 0)}
 dsimp only
 have hsz:vs.toArray.size < 2:=by rw[JA];exact h2
 rw[iA hsz,iA hsz]
 refine gA (DA ?_)
 rw[StateT.run_pure]
 refine gA (DA ?_)
 dsimp only
 refine gA (seqEpoch_at ho6 rfl ?_)
 have hm:Array.map (λx=>x.snd) (arrOf (SortSt.mk' general' (vs.toArray.zip vs.toArray) #[] 7 none))=vs.toArray:=by
  show (vs.toArray.zip vs.toArray).map (λx=>x.snd)=vs.toArray
  apply Array.ext'
  rw[Array.toList_map,Array.toList_zip]
  exact List.map_snd_zip (pA _)
 show wpAny _ _ (Builtin.List.listUpdate (.ref a) (λ_=>Array.map (λx=>x.snd) (arrOf (SortSt.mk' general' (vs.toArray.zip vs.toArray) #[] 7 none))) >>= _) _ _ _
 rw[hm]
 refine gA (listUpdate_at ho6 rfl ?_ (hsz2:=by rw[ID,JA];omega))
 simp only[bne_self_eq_false,QA,HB]
 exact DA h
theorem pZ {H:Hp} {h:Heap} {a:Addr} {k:List Key} (ok:rG prog w H h) (e:H a=some (.tup (k.map kV))) (ht:uG k):yF h (.ref a) k:=by
 obtain⟨s1,x,y,rfl⟩:=ht
 obtain⟨_,its,r,o,g1,g2,n,g3⟩:=ok _ _ e
 cases r with
 |cons r1 r=>cases r with
  |cons r2 r=>cases r with
   |cons r3 r=>
    cases r
    obtain⟨t1,rfl⟩:=r1
    obtain⟨t2,rfl⟩:=r2
    obtain⟨t3,rfl⟩:=r3
    exact⟨a,o,_,n,s1,x,y,t1,t2,t3,rfl,g1,g2,g3,rfl,rfl⟩
theorem eT {H:Hp}:∀{out:List Value} {ks:List (List Key)},Paired (λv k=>uG k/\∃a,v=Value.ref a/\H a=some (.tup (k.map kV))) out ks->∃us,BE us out/\yI H ks us
 |_,_,.nil=>⟨[],.nil,.nil⟩
 |_,_,.cons ⟨_,a,e,h⟩ r=>by
  obtain⟨us,h1,h2⟩:=eT r
  exact⟨.ref a::us,.cons e h1,.cons ⟨a,rfl,h⟩ h2⟩
end
theorem qZ {H:Hp}:∀{us:List V} {its:List Value} {ks:List (List Key)},BE us its->yI H ks us->(∀k∈ks,uG k)->Paired (λv k=>uG k/\∃a,v=Value.ref a/\H a=some (.tup (k.map kV))) its ks
 |_,_,_,.nil,.nil,_=>.nil
 |_,_,_,.cons r v,.cons ⟨a,e,h⟩ q,ht=>by
  subst e
  exact .cons ⟨ht _ (wA ..),a,r,h⟩ (qZ v q λk hk=>ht k (jA _ hk))
end L2
namespace L2
open PySem PySem.Spec PyProof.Rows
open Classical in
theorem rZ (a b:Key):kJ (kV a) (kV b)=decide (a=b):=by
 cases a<;>cases b<;>simp[kV,kJ,Bool.beq_eq_decide_eq]
noncomputable def zH (k:List Key):List Dv:=k.map λx=>.leaf (kV x)
theorem fT:∀(k l:List Key),VE (zH k) (zH l)=decide (k=l)
 |[],[]=>by simp[zH,VE]
 |[],b::l=>by simp[zH,VE]
 |a::k,[]=>by simp[zH,VE]
 |a::k,b::l=>by
  have ih:=fT k l
  unfold zH at ih ⊢
  rw[CA,CA,VE,ih,tG,rZ,MB]
  simp
theorem iT:∀(k l:List Key),SE (zH k) (zH l)=true
 |[],[]=>by simp[zH,SE]
 |[],b::l=>by simp[zH,SE]
 |a::k,[]=>by simp[zH,SE]
 |a::k,b::l=>by
  have ih:=iT k l
  unfold zH at ih ⊢
  rw[CA,CA,SE,ih,vG];rfl
theorem jT:∀(k:List Key),GE (zH k)=0
 |[]=>by simp[zH,GE]
 |a::k=>by
  have ih:=jT k
  unfold zH at ih ⊢
  rw[CA,GE,ih,vF];rfl
theorem sZ {K:PySem.W.Frag} {H:Hp}:∀(k:List Key),JE K H (zH k) (k.map kV)
 |[]=>by show JE K H [] [];unfold JE;rfl
 |a::k=>by
  show JE K H (Dv.leaf (kV a)::zH k) (kV a::k.map kV)
  unfold JE
  refine⟨_,_,rfl,?_,sZ k⟩
  unfold EF
  exact⟨rfl,by cases a<;>rfl⟩
theorem iR {K:PySem.W.Frag} {H:Hp} {a:Addr} {k:List Key} (h:H a=some (.tup (k.map kV))):EF K H (.seq true (zH k)) (.ref a):=by
 unfold EF
 exact⟨a,_,rfl,by rw[iA rfl];exact oF.of h,sZ k⟩
end L2
namespace L2
open PySem PySem.Spec PyProof.Rows
section
variable {prog:Program} {w:World} {K:Type} [DecidableEq K] {knd:HeapKind prog w K} {A:Around} {E:Value->Shared->Prop} {s:Shared}
theorem j8 {d a:Addr} {xs:List (K×Addr×Value)} {k:K} {dflt:Value} {Q:Value->Shared->Prop} (hu:knd.room A) (hkey:knd.is s.heap k a) (hm:s.heap.DictOfH knd d xs) (hsz:xs.length<=sizeLine)
  (h1:∀p,atKey xs k=some p->Q p.2 {s with toks:=s.toks+knd.draws k})
  (h2:atKey xs k=none->∀h',h'.DictOfH knd d (storedH xs k a dflt)->Heap.SameBut d s.heap h'->Q dflt {s with heap:=h',toks:=s.toks+knd.draws k}):wpAny (model prog w) A (dictSetDefault d (.ref a) dflt) Q E s:=by
 obtain⟨o,es,ep,ho,hc,hd,he,his,hn⟩:=hm
 unfold dictSetDefault
 try with_reducible refine IB ?_
 refine gA (knd.pyHash hu hkey ?_)
 refine gA (wpAny_dictFind_heap (s:={s with toks:=s.toks+knd.draws k}) hu hkey ho hd he his hn (λhno=>?_) λj p hj=>?_)
 ·have hnot:k∉xs.map (·.1):=not_mem_keys_of_get hno
  refine gA (jD (gA (wpAny_updateDictKeys (hz:=by have e:=size_of_entries he;omega) (s:={s with toks:=s.toks+knd.draws k}) ho hd (DA (h2 (tD hno) _ ⟨_,_,ep+1,nC _ ho (Obj.isFreed_of_dict (Obj.data_mapDictKeys hd _)),hc.mapDictKeys _,Obj.data_mapDictKeys hd _,?_,?_,?_⟩ (BC ..))))))
  ·rw[storedH_new (tD hno)]
   simp[he,entryOfKey]
  ·rw[storedH_new (tD hno)]
   intro x hx
   rcases GA.mp hx with hx|hx
   ·exact knd.keeps (his x hx) ho hd (BC ..)
   ·simp only[kA] at hx
    subst hx
    exact knd.keeps hkey ho hd (BC ..)
  ·rw[storedH_new (tD hno)]
   rw[aB,fB]
   refine⟨hn,by simp,?_⟩
   intro x hx y hy
   simp only[CA,dC,kA] at hy
   subst hy
   exact λe=>hnot (e ▸ hx)
 ·refine gA (vD (s:={s with toks:=s.toks+knd.draws k}) ho hd ?_)
  have ee:es[j]?=some (entryOfKey knd (k,p)):=by rw[entry_at he,hj];rfl
  rw[ee]
  exact gA (jD (DA (h1 p (atKey_of_get hn hj))))
theorem k8 {d a:Addr} {dflt:Value}:MeetsIn prog w (Builtin.«dict.setdefault» ⟨[.ref d,.ref a,dflt],[]⟩) (λA R s=>knd.room A.in1/\(d == sysModules)=false/\∃k xs,knd.is s.heap k a/\s.heap.DictOfH knd d xs/\xs.length<=sizeLine/\
   (∀p,atKey xs k=some p->R (.ok (.ret p.2)) {s with toks:=s.toks+knd.draws k})/\
   (atKey xs k=none->∀h',h'.DictOfH knd d (storedH xs k a dflt)->Heap.SameBut d s.heap h'->R (.ok (.ret dflt)) {s with heap:=h',toks:=s.toks+knd.draws k})):=
 .of_wp λA R s ⟨hu,hd,k,xs,hkey,hm,hsz,h1,h2⟩=>by
  unfold Builtin.«dict.setdefault»
  refine gA ?_
  unfold Builtin.Dict.keyAndDefault
  refine gA (wpAny_notOrdered_dict hm.typeIs ?_)
  show wpAny _ _ (pure (d,Value.ref a,some dflt)) _ _ s
  refine DA ?_
  show wpAny _ _ (if (d == sysModules)=true then _ else (dictSetDefault d (.ref a) dflt >>= _)) _ _ s
  rw[fA (by rw[hd];exact oA)]
  exact gA (j8 hu hkey hm hsz (λp hp=>DA ⟨p.2,rfl,h1 p hp⟩) λhn h' hm' hs'=>DA ⟨dflt,rfl,h2 hn h' hm' hs'⟩)
end
theorem m8 {X:Cx} {pins:List (Addr×Obj)} {σ:St} {H:Hp} {s:Shared} {a b:Addr} {kvs:List (List Key×V)} {k:List Key} {A:Around} {E:Value->Shared->Prop} {r:Value} {z:V} {Q:Value->Shared->Prop} (hu:A.units+1 < cLine) (I:wE X pins σ H s) (e:H a=some (.dT kvs)) (eb:H b=some (.tup (k.map kV))) (rz:FE z r) (hl:kvs.length < sizeLine)
  (h1:∀v,HF kvs k=some v->∀w' s',wE X pins σ H s'->FE v w'->Q w' s')
  (h2:HF kvs k=none->∀s',wE X pins σ (upd H a (.dT (nG kvs k z))) s'->Q r s'):wpAny (model X.prog X.w) A (call (.builtin "dict.setdefault") [.ref a,.ref b,r]) Q E s:=by
 obtain⟨zz,hd,xs,rel,dd⟩:=lO I.hok e
 have hz:xs.length<=sizeLine:=by rw[<-Paired.length rel];exact zz
 have hlp:(nG kvs k z).length<=sizeLine:=by have:=HS kvs k z;omega
 refine call_meetsIn PySem.F.slot_dict_setdefault dd.typeIs PySem.F.entry_dict_setdefault (PySem.F.args_dict_setdefault_3 _ _ _) (k8 (knd:=tupleKind (cF X.prog X.w))) ⟨tupleKind_room_in1 hu,hd,k,xs,cR I.hok eb,dd,hz,λp hp=>?_,λhn h' dd' hs=>?_⟩
 ·have q:=rel.val k
  rw[hp] at q
  cases hv:HF kvs k with
  |none=>rw[hv] at q;exact q.elim
  |some v=>rw[hv] at q;exact h1 v hv _ _ (I.tok _) q
 ·have q:=rel.val k
  rw[hn] at q
  have hv:HF kvs k=none:=by
   cases hv:HF kvs k with
   |none=>rfl
   |some v=>rw[hv] at q;exact q.elim
  refine h2 hv _ ?_
  obtain⟨q,es,ep,hq,g2,g3,g4,_,g5⟩:=dd'
  refine dR I (by rw[e];exact True.intro) hs ⟨q,hq⟩ ⟨hlp,hd,_,(rel.put k eb rz).keeps λc ys ec=>?_,q,es,ep,hq,g2,g3,g4,g5⟩
  rw[AE (qG ec e (λz=>nomatch z))]
  exact ec
noncomputable def gK (td ty tx:TE):TE:=λσ H Q=>td σ H λx H1=>∃a,x=.ref a/\DY H1 a/\ty σ H1 λy H2=>tx σ H2 λz H3=>∃kvs k b,H3 a=some (.dT kvs)/\y=.ref b/\H3 b=some (.tup (k.map kV))/\kvs.length < sizeLine/\
 (∀v,HF kvs k=some v->Q v H3)/\(HF kvs k=none->Q z (upd H3 a (.dT (nG kvs k z))))
theorem n8 {X:Cx} {o e f:Expr} {apos cpos:Pos} {td ty tx:TE} (hu:X.A.units+1 < cLine) (ho:PE X o td) (he:PE X e ty) (hf:PE X f tx) (m:M2 X o "setdefault" apos e f cpos):PE X (.Call (.Attribute o "setdefault" apos) [e,f] [] cpos) (gK td ty tx):=by
 intro pins s σ H Q I h
 refine wpAny_Call_method m.base m.few m.line PySem.F.plainAttrs_dict PySem.F.slot_dict_setdefault PySem.F.type_dict_setdefault (mF (ho pins s σ H _ I h) λu s1 ⟨x,H1,I1,rx,a,ex,d,q1⟩=>?_)
 subst ex
 obtain rfl:u=Value.ref a:=rx
 obtain⟨t1,t2,_⟩:=DM I1 d
 refine⟨t1,t2,?_⟩
 rw[m.trees]
 refine Calls.callWith_builtin rfl (FD (LD (mF (he pins s1 σ H1 _ I1 q1) λiv s2 ⟨y,H2,I2,ry,q2⟩=>
  LD (mF (hf pins s2 σ H2 _ I2 q2) λfv s3 ⟨z,H3,I3,rz,kvs,k,b,ea,ey,eb,hl,q3,q4⟩=>Calls.spliced_nil ?_))))
 subst ey
 cases ry
 exact m8 hu I3 ea eb rz hl (λv hv w' s4 I4 rw'=>⟨v,_,I4,rw',q3 v hv⟩) λhn s4 I4=>⟨z,_,I4,rz,q4 hn⟩
theorem o8 {a:Addr} {o:Obj} {kvs:List (List Key×V)} {g:TG} {tt:TT} {te:TE} {h:ZI g tt te} {σ0:St} {D:Addr} {Q:Hp->Prop} {H:Hp} (Pv:Nat->List V->St->Hp->Prop) (h0:Pv 0 [] σ0 (upd H D (.lst []))) (hl:∀i ys σ H,i<=kvs.length->Pv i ys σ H->H a=some (.frz o (.dT kvs)))
  (hs:∀i k x b ys σ H,kvs[i]?=some (k,x)->H b=some (.tup (k.map kV))->Pv i ys σ H->g (.ref b) σ H λσ2 H2=>tt σ2 H2 λc H2'=>if c=true then te σ2 H2' λv H3=>H3 D=some (.lst ys)/\ys.length < sizeLine/\Pv (i+1) (ys++[v]) σ2 (upd H3 D (.lst (ys++[v]))) else Pv (i+1) ys σ2 H2') (hd:∀ys σ H,Pv kvs.length ys σ H->Q H):
  vJ g tt te h (VM a o kvs) σ0 D Q H:=by
 refine⟨λi m ys σ H=>i+m=kvs.length/\Pv i ys σ H,⟨kvs.length,UB _,h0⟩,λi m ys σ H ⟨e,p⟩=>?_⟩
 have hq:=hl i ys σ H (by omega) p
 by_cases hi:i < kvs.length
 ·refine .inr ⟨⟨hq,hi⟩,Pv (i+1),λys σ H q=>⟨m - 1,by omega,by omega,q⟩,?_⟩
  rintro y H' ⟨rfl,k,v,b,hk,rfl,hb⟩
  exact hs i k v b ys σ _ hk hb p
 ·have e':i=kvs.length:=by omega
  subst e'
  exact .inl ⟨⟨hq,rfl⟩,hd ys σ H p⟩
end L2
namespace L2
open PySem PySem.Spec PyProof.Rows
end L2
namespace L2
open PySem PySem.Spec PyProof.Rows
end L2
namespace L2
open PySem PySem.Spec PyProof.Rows
section
variable {M:Model} {A:Around} {E:Value->Shared->Prop} {s:Shared} {env:Env}
end
section
variable {M:Model} {A:Around} {E:Value->Shared->Prop} {s:Shared} {env:Env}
end
section
variable {X:Cx}
end
end L2
namespace L2
open PySem PySem.Spec PyProof.Rows
section
variable {prog:Program} {w:World} {A:Around} {E:Value->Shared->Prop} {s:Shared}
end
section
variable {prog:Program} {w:World} {A:Around} {E:Value->Shared->Prop} {s:Shared}
end
section
variable {X:Cx}
end
end L2
namespace L2
open PySem PySem.Spec PyProof.Rows
end L2
namespace L2
open PySem PySem.Spec PyProof.Rows
section
variable {K:PySem.W.Frag} {h:Heap} {mg:Str->Option Value} {x qual:Str} {st:Stmt} {ps:List Str} {C f:Addr} {oc:Value} {od an:Option Addr} {osl:Array (Option Value)} {kV doc pm cdv ct:Value}
noncomputable def GF (K:PySem.W.Frag) (x:Str) (st:Stmt):Prop:=∃f fd,PySem.W.nsIn K mainGlobals x=some (some (.ref f))/\VI K x x st f fd
theorem GF.mk (a:PySem.W.nsIn K mainGlobals x=some (some (.ref f))) (l:K.lookup f=some ⟨oc,od,.func (PySem.W.fnOf x x (qF st) (dF st) (qE st) .none kV doc pm an cdv ct),osl⟩) (c:PySem.W.codeIn K cdv x=true) (k:PySem.W.keepIn K (.ref f)=true):GF K x st:=⟨_,_,a,JS l c k⟩
theorem GF.raw (g:GF K x st) (X:K.In h) (G:h.Ns mainGlobals mg) (b:∀(kV doc pm:Value) (an:Option Addr) (cdv ct:Value) (us:List Value),us.length=ps.length->bindArgs (PySem.W.fnOf x x (qF st) (dF st) (qE st) .none kV doc pm an cdv ct) ⟨us,[]⟩=pure (ps.zip us)):XI K mg x x st ps []:=
 let ⟨_,_,a,F⟩:=g
 ⟨_,_,_,PySem.W.mg_of X G a,F,F.binds b,.nil⟩
theorem GF.law (g:GF K x st) (X:K.In h) (G:h.Ns mainGlobals mg) {p:Str} (b:∀(kV doc pm:Value) (an:Option Addr) (cdv ct u:Value),bindArgs (PySem.W.fnOf x x (qF st) (dF st) (qE st) .none kV doc pm an cdv ct) ⟨[u],[]⟩=pure [(p,u)]):∃f fd,mg x=some (.ref f)/\VI K x x st f fd/\∀(s:Shared) (u:Value),BindsTo s fd ⟨[u],[]⟩ [(p,u)]:=by
 obtain⟨f,fd,a,F⟩:=g
 refine⟨f,fd,PySem.W.mg_of X G a,F,λs u=>?_⟩
 obtain⟨oc,od,kV,doc,pm,an,cdv,ct,osl,rfl,lk,hcd⟩:=F.ex
 exact .of_eq (b ..)
noncomputable def MF (K:PySem.W.Frag) (C:Addr) (x qual:Str) (st:Stmt):Prop:=∃f fd,RI K C x f/\VI K x qual st f fd
theorem MF.mk (a:PySem.W.findIn K (.ref C) x=some (some (.ref f))) (i:PySem.W.isFn K (.ref f)=true) (l:K.lookup f=some ⟨oc,od,.func (PySem.W.fnOf x qual (qF st) (dF st) (qE st) .none kV doc pm an cdv ct),osl⟩) (c:PySem.W.codeIn K cdv qual=true) (k:PySem.W.keepIn K (.ref f)=true):MF K C x qual st:=⟨_,_,⟨a,i,k⟩,JS l c k⟩
theorem MF.raw (g:MF K C x qual st) (b:∀(kV doc pm:Value) (an:Option Addr) (cdv ct:Value) (us:List Value),us.length=ps.length->bindArgs (PySem.W.fnOf x qual (qF st) (dF st) (qE st) .none kV doc pm an cdv ct) ⟨us,[]⟩=pure (ps.zip us)):DF K C x qual st ps []:=
 let ⟨_,_,a,F⟩:=g
 ⟨_,_,_,a,F,F.binds b,.nil⟩
noncomputable def IF (K:PySem.W.Frag) (C:Addr) (qual:Str) (st:Stmt):Prop:=∃f fd,Mk K C f/\VI K "__init__" qual st f fd
theorem IF.mk (m:PySem.W.makesIn K C=true) (kc:PySem.W.keepIn K (.ref C)=true) (a:PySem.W.findIn K (.ref C) "__init__"=some (some (.ref f))) (i:PySem.W.isFn K (.ref f)=true) (l:K.lookup f=some ⟨oc,od,.func (PySem.W.fnOf "__init__" qual (qF st) (dF st) (qE st) .none kV doc pm an cdv ct),osl⟩) (c:PySem.W.codeIn K cdv qual=true) (k:PySem.W.keepIn K (.ref f)=true):IF K C qual st:=⟨_,_,⟨m,a,i,kc⟩,JS l c k⟩
theorem IF.raw (g:IF K C qual st) (X:K.In h) (G:h.Ns mainGlobals mg) (n:PySem.W.nsIn K mainGlobals x=some (some (.ref C))) (b:∀(kV doc pm:Value) (an:Option Addr) (cdv ct:Value) (us:List Value),us.length=ps.length->bindArgs (PySem.W.fnOf "__init__" qual (qF st) (dF st) (qE st) .none kV doc pm an cdv ct) ⟨us,[]⟩=pure (ps.zip us)):tJ K mg x C qual st ps []:=
 let ⟨_,_,a,F⟩:=g
 ⟨_,_,_,PySem.W.mg_of X G n,a,F,F.binds b,.nil⟩
end
end L2
namespace L2
open PySem PySem.Spec PyProof.Rows
namespace ST
noncomputable def jR (m i:Nat):Nat:=(i * 5+1) % (m+1)
noncomputable def kR (m:Nat):Nat->Nat->List Nat
 |0,_=>[]
 |k+1,i=>i::kR m k (jR m i)
theorem kT:∀i,i < 8->∀j,j < 8->j∈kR 7 8 i:=by decide
theorem FP:∀i,i < 32->∀j,j < 32->j∈kR 31 32 i:=by decide+kernel
noncomputable def wJ (m:Nat):Nat->Nat->Nat
 |0,i=>i
 |k+1,i=>wJ m k (jR m i)
theorem lT {m j:Nat}:∀{k i:Nat},j∈kR m k i->∃n,n < k/\wJ m n i=j
 |0,_,h=>by cases h
 |k+1,i,h=>by
  rcases xA.mp h with h|h
  ·exact⟨0,by omega,h.symm⟩
  ·obtain⟨n,h1,h2⟩:=lT h
   exact⟨n+1,by omega,h2⟩
noncomputable def Mk (m:Nat):Prop:=m=7\/m=31
theorem r8 {m:Nat} (hm:Mk m) {i j:Nat} (hi:i<=m) (hj:j<=m):∃n,n<=m/\wJ m n i=j:=by
 rcases hm with rfl|rfl
 ·obtain⟨n,h1,h2⟩:=lT (kT i (by omega) j (by omega));exact⟨n,by omega,h2⟩
 ·obtain⟨n,h1,h2⟩:=lT (FP i (by omega) j (by omega));exact⟨n,by omega,h2⟩
noncomputable def lp (m:Nat):Nat->Nat×Nat->Nat×Nat
 |0,x=>x
 |k+1,x=>SetTable.leap m (lp m k x).1 (lp m k x).2
theorem GP {m:Nat} {x:Nat×Nat} (h:x.1<=m):∀k,(lp m k x).1<=m
 |0=>h
 |k+1=>by
  show (_ % (m+1))<=m
  have:=Nat.mod_lt ((lp m k x).1 * 5+1+(lp m k x).2 / 32) (show 0 < m+1 by omega)
  omega
theorem tZ {m:Nat} {x:Nat×Nat}:∀k,(lp m k x).2=x.2 / 32 ^ k
 |0=>by show x.2=_;rw[Nat.pow_zero,Nat.div_one]
 |k+1=>by
  show (lp m k x).2 / 32=_
  rw[tZ k,Nat.div_div_eq_div_mul,Nat.pow_succ]
theorem aN {m:Nat} {x:Nat×Nat} (hx:x.2 < 2 ^ 64) {k:Nat} (hk:13<=k):(lp m k x).2=0:=by
 rw[tZ]
 apply Nat.div_eq_of_lt
 have:(32:Nat) ^ 13<=32 ^ k:=Nat.pow_le_pow_right (by omega) hk
 have e:(32:Nat) ^ 13=2 ^ 65:=by decide
 omega
theorem uZ {m:Nat}:∀{n i:Nat},wJ m (n+1) i=jR m (wJ m n i)
 |0,_=>rfl
 |n+1,i=>uZ (n:=n) (i:=jR m i)
theorem vZ {m:Nat} {x:Nat×Nat} (hx:x.2 < 2 ^ 64):∀n,(lp m (13+n) x).1=wJ m n (lp m 13 x).1
 |0=>rfl
 |n+1=>by
  rw[uZ,<-vZ hx n]
  show ((lp m (13+n) x).1 * 5+1+(lp m (13+n) x).2 / 32) % (m+1)=_
  rw[aN hx (by omega)]
  rfl
theorem bN {m:Nat} (hm:Mk m) {x:Nat×Nat} (h:x.1<=m) (hx:x.2 < 2 ^ 64) {j:Nat} (hj:j<=m):∃k,k<=13+m/\(lp m k x).1=j:=by
 obtain⟨n,h1,h2⟩:=r8 hm (GP h 13) hj
 exact⟨13+n,by omega,by rw[vZ hx];exact h2⟩
theorem t8 (h:Int):SetTable.bits h < 2 ^ 64:=by unfold SetTable.bits;omega
theorem wZ {m:Nat} {x:Nat×Nat}:∀n,lp m (n+1) x=lp m n (SetTable.leap m x.1 x.2)
 |0=>rfl
 |n+1=>by
  show SetTable.leap m (lp m (n+1) x).1 (lp m (n+1) x).2=_
  rw[wZ n]
  rfl
theorem xZ {m:Nat} {ow:Array (Option Nat)}:∀{n fuel:Nat} {x:Nat×Nat},n < fuel->ow.getD (lp m n x).1 (some 0)=none->∃j,SetTable.layClean.free m ow fuel x.1 x.2=some j/\ow.getD j (some 0)=none
 |n,fuel+1,x,hf,he=>by
  unfold SetTable.layClean.free
  cases e:(List.range (SetTable.runEnd m x.1+1 - x.1)).find? λk=>(ow.getD (x.1+k) (some 0)).isNone with
  |some k=>
   have h1:=List.find?_some e
   exact⟨_,rfl,TD.mp h1⟩
  |none=>
   dsimp only
   cases n with
   |zero=>
    exfalso
    have h1:=List.find?_eq_none.mp e 0 (DC.mpr (by unfold SetTable.runEnd;split<;>omega))
    apply h1
    rw[Nat.add_zero]
    exact TD.mpr he
   |succ n=>
    rw[wZ] at he
    exact xZ (x:=SetTable.leap m x.1 x.2) (by omega) he
structure Ow (m:Nat) (ow:Array (Option Nat)) (js:List Nat):Prop where
 sz:ow.size=m+1
 nd:js.Nodup
 le:∀j∈js,j<=m
 at_:∀j,j<=m->ow[j]?=some (if j∈js then some (js.idxOf j) else none)
theorem Ow.zero (m:Nat):Ow m (Array.replicate (m+1) none) []:=⟨by simp,.nil,(λj h=>by cases h),λj hj=>by
 rw[Array.getElem?_replicate,iA (by omega)];rfl⟩
theorem Ow.next {m:Nat} (hm:Mk m) {ow:Array (Option Nat)} {js:List Nat} (h:Ow m ow js) (hl:js.length<=m) (hs:Int):
  ∃j,SetTable.layClean.free m ow (SetTable.turns m) (SetTable.bits hs % (m+1)) (SetTable.bits hs)=some j/\Ow m (ow.setIfInBounds j (some js.length)) (js++[j]):=by
 have hno:∃j,j<=m/\j∉js:=by
  apply YC
  intro hno
  have sub:List.range (m+1) ⊆ js:=λj hj=>YC λq=>hno ⟨j,by have:=DC.mp hj;omega,q⟩
  have:=(List.nodup_range (n:=m+1)).length_le_of_subset sub
  rw[ZA] at this
  omega
 obtain⟨j0,hj0,hj1⟩:=hno
 have h1:SetTable.bits hs % (m+1)<=m:=by
  have:=Nat.mod_lt (SetTable.bits hs) (show 0 < m+1 by omega)
  omega
 obtain⟨k,hk,e1⟩:=bN hm (x:=(SetTable.bits hs % (m+1),SetTable.bits hs)) h1 (t8 hs) hj0
 obtain⟨j,e2,e3⟩:=xZ (m:=m) (ow:=ow) (n:=k) (fuel:=SetTable.turns m) (x:=(SetTable.bits hs % (m+1),SetTable.bits hs)) (by unfold SetTable.turns;omega) (by
  rw[e1,cC,h.at_ j0 hj0,fA hj1];rfl)
 refine⟨j,e2,?_⟩
 have hjm:j<=m:=by
  apply YC
  intro q
  rw[cC,Array.getElem?_eq_none (by rw[h.sz];omega)] at e3
  cases e3
 have hjn:j∉js:=λq=>by
  rw[cC,h.at_ j hjm,iA q] at e3
  cases e3
 refine⟨by rw[Array.size_setIfInBounds];exact h.sz,?_,?_,λi hi=>?_⟩
 ·rw[fB]
  refine⟨h.nd,by simp,λa ha b hb e=>?_⟩
  rw[kA.mp hb] at e
  exact hjn (e ▸ ha)
 ·intro i hi
  rcases GA.mp hi with q|q
  ·exact h.le i q
  ·rw[kA.mp q];exact hjm
 ·rw[Array.getElem?_setIfInBounds]
  by_cases q:j=i
  ·subst q
   rw[iA rfl,iA (by rw[h.sz];omega),iA (IA _ (kA.mpr rfl)),List.idxOf_append,fA hjn]
   simp
  ·rw[fA q,h.at_ i hi]
   by_cases r:i∈js
   ·rw[iA r,iA (wB _ r),List.idxOf_append,iA r]
   ·rw[fA r,fA]
    intro z
    rcases GA.mp z with z|z
    ·exact r z
    ·exact q (kA.mp z).symm
section
variable {prog:Program} {w:World} {A:Around} {E:Value->Shared->Prop} {s:Shared} {a:Addr} {o:Obj} {items:Array Value} {n:Nat} {Q:Bool->Shared->Prop}
end
section
variable {prog:Program} {w:World} {K:Type} [DecidableEq K] {knd:KeyKind prog w K} {A:Around} {E:Value->Shared->Prop} {s:Shared} {S a:Addr} {o:Obj} {es:Array (Int×Value)} {ep:Nat} {t:SetTable} {k:List K}
end
section
variable {prog:Program} {w:World} {K:Type} [DecidableEq K] {knd:KeyKind prog w K} {A:Around} {E:Value->Shared->Prop} {s:Shared} {S a:Addr} {k:List K} {ks:List (List K)}
noncomputable def TB (knd:KeyKind prog w K) (h:Heap) (S:Addr) (ks:List (List K)):Prop:=∃o es ep t,h.get? S=some o/\o.ExactSet/\o.data=.set es ep t/\Mk t.mask/\t.dummies= #[]/\t.place.size=es.size/\es.size=ks.length/\(t.mask=7->es.size<=4)/\
 ∀e∈es.toList,∃k' b,k'∈ks/\e=(tupleKeyHash knd k',.ref b)/\IsTupleKey knd h k' b
end
section
variable {prog:Program} {w:World} {K:Type} [DecidableEq K] {knd:KeyKind prog w K} {A:Around} {R:Result->Shared->Prop} {I:Addr} {fp wr:List Addr} {G:Array GenState->Array GenState->Prop} {n:Nat} {P:Nat->Value->Prop} {St:Nat->Shared->Prop}
theorem cN {h h':Heap} {k:List K} {a:Addr} (x:IsTupleKey knd h k a) (hk:∀o,h.get? a=some o->h'.get? a=some o):IsTupleKey knd h' k a:=by
 obtain⟨o',items,n,ho',hc,hd',hi⟩:=x
 exact⟨o',items,n,hk _ ho',hc,hd',hi⟩
theorem TB.keep {h h':Heap} {S:Addr} {ks:List (List K)} (hT:TB knd h S ks) (hS:∀o,h.get? S=some o->h'.get? S=some o) (hk:∀b k,IsTupleKey knd h k b->∀o,h.get? b=some o->h'.get? b=some o):TB knd h' S ks:=by
 obtain⟨o,es,ep,t,ho,h1,h2,h3,h4,h5,h6,h7,h8⟩:=hT
 refine⟨o,es,ep,t,hS _ ho,h1,h2,h3,h4,h5,h6,h7,λe he=>?_⟩
 obtain⟨k',b,a1,a2,a3⟩:=h8 e he
 exact⟨k',b,a1,a2,cN a3 (hk b k' a3)⟩
end
section
variable {prog:Program} {w:World} {K:Type} [DecidableEq K] {knd:KeyKind prog w K} {A:Around} {E:Value->Shared->Prop} {s:Shared}
end
end ST
end L2
namespace L2
open PySem PySem.Spec PyProof.Rows
end L2
namespace L2
open PySem PySem.Spec PyProof.Rows
namespace TS
noncomputable def Od (kd:SortKind) (Ok:Keyed->Prop) (rk:Keyed->Int) (M:Model) (A:Around) (E:Value->Shared->Prop) (s:Shared):Prop:=
 ∀(st:SortSt) (x y:Keyed) (Q:Option Bool->SortSt->Prop),kindOf st=kd->Ok x->Ok y->Q (some (decide (rk x < rk y))) st->wpS M A E s (lt' x y) Q st
noncomputable def Kr (rk:Keyed->Int) (xs:Array Keyed) (i:Nat):Int:=match xs[i]? with
 |some p=>rk p
 |none=>0
theorem dN {rk:Keyed->Int} {xs ys:Array Keyed} {i j:Nat} (h:xs[i]?=ys[j]?):Kr rk xs i=Kr rk ys j:=by unfold Kr;rw[h]
theorem oH {rk:Keyed->Int} {xs:Array Keyed} {i:Nat} {p:Keyed} (h:xs[i]?=some p):Kr rk xs i=rk p:=by unfold Kr;rw[h]
noncomputable def QG (rk:Keyed->Int) (xs:Array Keyed) (lo n:Nat):Prop:=∀i j,i<=j->j < n->Kr rk xs (lo+i)<=Kr rk xs (lo+j)
noncomputable def qO (rk:Keyed->Int) (xs:Array Keyed) (lo n:Nat):Prop:=∀i j,i<=j->j < n->Kr rk xs (lo+j)<=Kr rk xs (lo+i)
noncomputable def YG (xs ys:Array Keyed) (lo n:Nat):Prop:=∀k,k < lo\/lo+n<=k->ys[k]?=xs[k]?
theorem YG.rfl' {xs:Array Keyed} {lo n:Nat}:YG xs xs lo n:=λ_ _=>rfl
theorem YG.trans {xs ys zs:Array Keyed} {lo n:Nat} (h:YG xs ys lo n) (g:YG ys zs lo n):YG xs zs lo n:=λk hk=>(g k hk).trans (h k hk)
theorem YG.wide {xs ys:Array Keyed} {lo n lo' n':Nat} (h:YG xs ys lo n) (h1:lo'<=lo) (h2:lo+n<=lo'+n'):YG xs ys lo' n':=λk hk=>h k (by omega)
theorem QG.out {rk:Keyed->Int} {xs ys:Array Keyed} {lo n lo' n':Nat} (h:QG rk xs lo n) (o:YG xs ys lo' n') (d:lo+n<=lo'\/lo'+n'<=lo):QG rk ys lo n:=λi j hij hj=>by
 rw[dN (o (lo+i) (by omega)),dN (o (lo+j) (by omega))]
 exact h i j hij hj
structure Sb (a₀:Array Keyed) (kd:SortKind) (pd:Array (Nat×Nat×Nat)) (st:SortSt):Prop where
 perm:(arrOf st).Perm a₀
 kind:kindOf st=kd
 failed:failedOf st=none
 pend:pendingOf st=pd
theorem Sb.size {a₀:Array Keyed} {kd:SortKind} {pd:Array (Nat×Nat×Nat)} {st:SortSt} (h:Sb a₀ kd pd st):(arrOf st).size=a₀.size:=h.perm.size_eq
theorem Sb.set {a₀:Array Keyed} {kd:SortKind} {pd:Array (Nat×Nat×Nat)} {st:SortSt} (h:Sb a₀ kd pd st) {xs:Array Keyed} (hp:xs.Perm (arrOf st)):Sb a₀ kd pd (setArr st xs):=⟨hp.trans h.perm,h.kind,h.failed,h.pend⟩
noncomputable def ZF (Ok:Keyed->Prop) (a₀:Array Keyed):Prop:=∀p∈a₀.toList,Ok p
theorem Sb.at {Ok:Keyed->Prop} {a₀:Array Keyed} {kd:SortKind} {pd:Array (Nat×Nat×Nat)} {st:SortSt} (h:Sb a₀ kd pd st) (h0:ZF Ok a₀) {i:Nat} (hi:i < a₀.size):∃p,(arrOf st)[i]?=some p/\Ok p:=by
 have hi':i < (arrOf st).size:=by rw[h.size];exact hi
 have hm:(arrOf st)[i]∈a₀.toList:=(VC.mp h.perm).mem_iff.mp (by simp)
 exact⟨_,getElem?_pos _ i hi',h0 _ hm⟩
section
variable {M:Model} {A:Around} {E:Value->Shared->Prop} {s:Shared} {a₀:Array Keyed} {kd:SortKind} {pd:Array (Nat×Nat×Nat)} {Ok:Keyed->Prop} {rk:Keyed->Int}
theorem tH {xs:Array Keyed} {i:Nat} {p:Keyed} {Q:Keyed->SortSt->Prop} {st:SortSt} (h:xs[i]?=some p) (q:Q p st):wpS M A E s (elem' xs i) Q st:=by
 rw[elem'_eq,h];exact yA q
theorem HP {st:SortSt} {i j:Nat} {Q:Option Bool->SortSt->Prop} (od:Od kd Ok rk M A E s) (hB:Sb a₀ kd pd st) (h0:ZF Ok a₀) (hi:i < a₀.size) (hj:j < a₀.size)
  (h:Q (some (decide (Kr rk (arrOf st) i < Kr rk (arrOf st) j))) st):wpS M A E s (ltAt' i j) Q st:=by
 obtain⟨p,e1,o1⟩:=hB.at h0 hi
 obtain⟨q,e2,o2⟩:=hB.at h0 hj
 rw[ltAt'_eq]
 refine rA (KD ?_)
 show wpS _ _ _ _ (do let x<-elem' (arrOf st) i;let y<-elem' (arrOf st) j;lt' x y) Q st
 refine rA (tH e1 (rA (tH e2 ?_)))
 rw[oH e1,oH e2] at h
 exact od st p q Q hB.kind o1 o2 h
theorem yZ {xs:Array Keyed} {src d:Nat} (hs:src < xs.size) (hd:d<=src) (k:Nat):
  Kr rk (bubble xs src d) k=if k=src - d then Kr rk xs src else if src - d < k/\k<=src then Kr rk xs (k - 1) else Kr rk xs k:=by
 have e:=getElem?_bubble hs d hd k
 by_cases h1:k=src - d
 ·rw[iA h1] at e ⊢;exact dN e
 ·rw[fA h1] at e ⊢
  by_cases h2:src - d < k/\k<=src
  ·rw[iA h2] at e ⊢;exact dN e
  ·rw[fA h2] at e ⊢;exact dN e
theorem mT {xs:Array Keyed} {i j:Nat} (hj:j<=xs.size) (k:Nat):
  Kr rk (mirror xs i j ((j - i) / 2)) k=if i<=k/\k < j then Kr rk xs (i+j - 1 - k) else Kr rk xs k:=by
 have e:=getElem?_mirror_all (i:=i) hj k
 by_cases h1:i<=k/\k < j
 ·rw[iA h1] at e ⊢;exact dN e
 ·rw[fA h1] at e ⊢;exact dN e
theorem IP {xs:Array Keyed} {i j:Nat} (hj:j<=xs.size) (heq:∀k,i<=k->k < j->Kr rk xs k=Kr rk xs (j - 1)) (k:Nat):
  Kr rk (mirror xs i j ((j - i) / 2)) k=Kr rk xs k:=by
 rw[mT hj]
 split
 ·rw[heq _ (by omega) (by omega),heq k (by omega) (by omega)]
 ·rfl
theorem lR {xs:Array Keyed} {i j lo n:Nat} (hj:j<=xs.size) (h1:lo<=i) (h2:j<=lo+n):YG xs (mirror xs i j ((j - i) / 2)) lo n:=λk hk=>by
 rw[getElem?_mirror_all hj,fA (by omega)]
theorem x8 {xs:Array Keyed} {src d lo n:Nat} (hs:src < xs.size) (hd:d<=src) (h1:lo<=src - d) (h2:src < lo+n):YG xs (bubble xs src d) lo n:=λk hk=>by
 rw[getElem?_bubble hs d hd,fA (by omega),fA (by omega)]
theorem y8 {st:SortSt} {lo n ok:Nat} {Q:Bool->SortSt->Prop} (od:Od kd Ok rk M A E s) (h0:ZF Ok a₀) (hn:lo+n<=a₀.size) (hok:ok<=n) (hB:Sb a₀ kd pd st) (hs:QG rk (arrOf st) lo ok)
  (h:∀st',Sb a₀ kd pd st'->QG rk (arrOf st') lo n->YG (arrOf st) (arrOf st') lo n->Q true st'):wpS M A E s (binarySort' lo n ok) Q st:=by
 rw[binarySort'_eq]
 refine rA (BB (qB (I:=λk c st'=>c=(none,())/\Sb a₀ kd pd st'/\QG rk (arrOf st') lo (min k n)/\YG (arrOf st) (arrOf st') lo n)
  (Q:=λc st'=>c=(none,())/\Sb a₀ kd pd st'/\QG rk (arrOf st') lo n/\YG (arrOf st) (arrOf st') lo n) ?step ?fin ?init) ?post)
 case post=>
  rintro c st' ⟨rfl,hB',hs',ho⟩
  exact yA (h st' hB' hs' ho)
 case init=>
  refine⟨rfl,hB,λi j hij hj=>?_,YG.rfl'⟩
  by_cases h1:ok=0
  ·have:i=j:=by omega
   subst this;exact NB _
  ·exact hs i j hij (by omega)
 case fin=>
  rintro c st' ⟨hc,hB',hs',ho⟩
  refine⟨hc,hB',?_,ho⟩
  rwa[show min (max (max ok 1) n) n=n by omega] at hs'
 case step=>
  rintro k c st' hak hkn ⟨rfl,hB',hs',ho⟩
  rw[show min k n=k by omega] at hs'
  have hk:lo+k < a₀.size:=by omega
  refine rA (BB (qB (I:=λx c st''=>st''=st'/\∃l r,c=(none,l,r)/\l<=r/\r<=k/\r - l<=k - x/\
    (∀i,i < l->Kr rk (arrOf st') (lo+i)<=Kr rk (arrOf st') (lo+k))/\(∀i,r<=i->i < k->Kr rk (arrOf st') (lo+k) < Kr rk (arrOf st') (lo+i)))
   (Q:=λc st''=>st''=st'/\∃l r,c=(none,l,r)/\l<=k/\
    (∀i,i < l->Kr rk (arrOf st') (lo+i)<=Kr rk (arrOf st') (lo+k))/\(∀i,l<=i->i < k->Kr rk (arrOf st') (lo+k) < Kr rk (arrOf st') (lo+i))) ?istep ?ifin ?iinit) ?ipost)
  case iinit=>exact⟨rfl,0,k,rfl,by omega,by omega,by omega,λi hi=>by omega,λi h1 h2=>by omega⟩
  case ifin=>
   rintro c st'' ⟨rfl,l,r,rfl,hlr,hrk,hm,hlo,hhi⟩
   have:l=r:=by omega
   subst this
   exact⟨rfl,l,l,rfl,hrk,hlo,hhi⟩
  case istep=>
   rintro x c st'' _ hxk ⟨rfl,l,r,rfl,hlr,hrk,hm,hlo,hhi⟩
   dsimp only
   by_cases hge:l>=r
   ·rw[iA hge]
    have:l=r:=by omega
    subst this
    exact yA ⟨rfl,l,l,rfl,hrk,hlo,hhi⟩
   ·rw[fA hge]
    refine rA (HP od hB' h0 hk (by omega) ?_)
    by_cases hless:Kr rk (arrOf st'') (lo+k) < Kr rk (arrOf st'') (lo+(l+r) / 2)
    ·simp only[hless,HD,RC]
     refine yA ⟨rfl,l,(l+r) / 2,rfl,by omega,by omega,by omega,hlo,λi h1 h2=>?_⟩
     exact Int.lt_of_lt_of_le hless (hs' _ _ h1 h2)
    ·simp only[hless,uD,QA,HB]
     refine yA ⟨rfl,(l+r) / 2+1,r,rfl,by omega,by omega,by omega,λi h1=>?_,hhi⟩
     exact nB (hs' i ((l+r) / 2) (by omega) (by omega)) (FC.mp hless)
  case ipost=>
   rintro c st'' ⟨rfl,l,r,rfl,hlk,hlo,hhi⟩
   show wpS _ _ _ _ (do moveDown' (lo+k) (lo+l);pure (ForInStep.yield (none,()))) _ _
   rw[moveDown'_eq]
   have hks:lo+k < (arrOf st'').size:=by rw[hB'.size];exact hk
   refine rA (CD (yA ⟨rfl,hB'.set (bubble_perm _ _ _),?_,ho.trans (x8 hks (by omega) (by omega) (by omega))⟩))
   rw[show min (k+1) n=k+1 by omega]
   intro i j hij hj
   show Kr rk (bubble (arrOf st'') (lo+k) (lo+k - (lo+l))) (lo+i)<=Kr rk (bubble (arrOf st'') (lo+k) (lo+k - (lo+l))) (lo+j)
   rw[yZ hks (by omega),yZ hks (by omega),show lo+k - (lo+k - (lo+l))=lo+l by omega]
   repeat' split
   all_goals first
    |(exfalso;omega)
    |exact NB _
    |exact hlo _ (by omega)
    |(rw[show lo+j - 1=lo+(j - 1) by omega];exact CB (hhi _ (by omega) (by omega)))
    |exact hs' _ _ (by omega) (by omega)
    |(rw[show lo+j - 1=lo+(j - 1) by omega];exact hs' _ _ (by omega) (by omega))
    |(rw[show lo+i - 1=lo+(i - 1) by omega,show lo+j - 1=lo+(j - 1) by omega];exact hs' _ _ (by omega) (by omega))
    |(rw[show lo+i - 1=lo+(i - 1) by omega];exact hs' _ _ (by omega) (by omega))
end
noncomputable def kI (lo a nrem:Nat):StateT SortSt Sem AscSt:=
 forIn [a:nrem] ((none,a):AscSt) λ_ __s=>do
  let __x<-ltAt' (lo+__s.snd) (lo+__s.snd - 1)
  match __x with
  |some smaller=>if smaller=true then pure (ForInStep.done (none,__s.snd)) else pure (ForInStep.yield (none,__s.snd+1))
  |_=>pure (ForInStep.done (some none,__s.snd))
noncomputable def UH (lo n nrem:Nat):StateT SortSt Sem (Option Nat):=do
 reverseSlice' lo (lo+n)
 let __s<-kI lo n nrem
 match __s.fst with
 |some r=>pure r
 |none=>pure (some __s.snd)
noncomputable def zI (lo n nrem:Nat):StateT SortSt Sem DescSt:=
 forIn [n:nrem] ((none,n,0):DescSt) λ_ __s=>do
  let __x<-ltAt' (lo+__s.snd.fst) (lo+__s.snd.fst - 1)
  match __x with
  |some smaller=>
   if smaller=true then
    if __s.snd.snd > 0 then do
     reverseSlice' (lo+__s.snd.fst - (__s.snd.snd+1)) (lo+__s.snd.fst)
     pure (ForInStep.yield (none,__s.snd.fst+1,0))
    else pure (ForInStep.yield (none,__s.snd.fst+1,0))
   else do
    let __x<-ltAt' (lo+__s.snd.fst - 1) (lo+__s.snd.fst)
    match __x with
    |some larger=>
     if larger=true then pure (ForInStep.done (none,__s.snd.fst,__s.snd.snd))
     else pure (ForInStep.yield (none,__s.snd.fst+1,__s.snd.snd+1))
    |_=>pure (ForInStep.done (some none,__s.snd.fst,__s.snd.snd))
  |_=>pure (ForInStep.done (some none,__s.snd.fst,__s.snd.snd))
noncomputable def cH (lo n nrem:Nat):StateT SortSt Sem (Option Nat):=do
 liftM (rule "list.sort.descending-run")
 let __s<-zI lo (n+1) nrem
 match __s.fst with
 |some r=>pure r
 |none=>
  if __s.snd.snd > 0 then do
   reverseSlice' (lo+__s.snd.fst - (__s.snd.snd+1)) (lo+__s.snd.fst)
   UH lo __s.snd.fst nrem
  else UH lo __s.snd.fst nrem
theorem I8 (lo nrem:Nat):countRun' lo nrem=(do
  let __s<-kI lo 1 nrem
  match __s.fst with
  |some r=>pure r
  |none=>
   if (__s.snd == nrem)=true then pure (some __s.snd)
   else if __s.snd > 1 then do
    let __x<-ltAt' lo (lo+__s.snd - 1)
    match __x with
    |some rose=>if rose=true then pure (some __s.snd) else do
      reverseSlice' lo (lo+__s.snd)
      cH lo __s.snd nrem
    |_=>pure none
   else cH lo __s.snd nrem):=by
 rw[countRun'_eq]
 refine congrArg (Bind.bind (kI lo 1 nrem)) (funext λx=>?_)
 obtain⟨r,n⟩:=x
 cases r with
 |some r=>rfl
 |none=>
  dsimp only
  split
  ·rfl
  ·split
   ·refine congrArg (Bind.bind (ltAt' lo (lo+n - 1))) (funext λx=>?_)
    cases x with
    |none=>rfl
    |some rose=>
     dsimp only
     split
     ·rfl
     ·refine congrArg (Bind.bind (reverseSlice' lo (lo+n))) (funext λ_=>?_)
      unfold cH
      refine congrArg (Bind.bind (liftM (rule "list.sort.descending-run"))) (funext λ_=>?_)
      refine congrArg (Bind.bind (zI lo (n+1) nrem)) (funext λx=>?_)
      obtain⟨r2,n2,q2⟩:=x
      cases r2 with
      |some r2=>rfl
      |none=>
       unfold UH
       dsimp only
       split
       ·refine congrArg (Bind.bind (reverseSlice' (lo+n2 - (q2+1)) (lo+n2))) (funext λ_=>?_)
        refine congrArg (Bind.bind (reverseSlice' lo (lo+n2))) (funext λ_=>congrArg (Bind.bind (kI lo n2 nrem)) (funext λx=>?_))
        obtain⟨r3,n3⟩:=x
        cases r3<;>rfl
       ·refine congrArg (Bind.bind (reverseSlice' lo (lo+n2))) (funext λ_=>congrArg (Bind.bind (kI lo n2 nrem)) (funext λx=>?_))
        obtain⟨r3,n3⟩:=x
        cases r3<;>rfl
   ·unfold cH
    refine congrArg (Bind.bind (liftM (rule "list.sort.descending-run"))) (funext λ_=>?_)
    refine congrArg (Bind.bind (zI lo (n+1) nrem)) (funext λx=>?_)
    obtain⟨r2,n2,q2⟩:=x
    cases r2 with
    |some r2=>rfl
    |none=>
     unfold UH
     dsimp only
     split
     ·refine congrArg (Bind.bind (reverseSlice' (lo+n2 - (q2+1)) (lo+n2))) (funext λ_=>?_)
      refine congrArg (Bind.bind (reverseSlice' lo (lo+n2))) (funext λ_=>congrArg (Bind.bind (kI lo n2 nrem)) (funext λx=>?_))
      obtain⟨r3,n3⟩:=x
      cases r3<;>rfl
     ·refine congrArg (Bind.bind (reverseSlice' lo (lo+n2))) (funext λ_=>congrArg (Bind.bind (kI lo n2 nrem)) (funext λx=>?_))
      obtain⟨r3,n3⟩:=x
      cases r3<;>rfl
section
variable {M:Model} {A:Around} {E:Value->Shared->Prop} {s:Shared} {a₀:Array Keyed} {kd:SortKind} {pd:Array (Nat×Nat×Nat)} {Ok:Keyed->Prop} {rk:Keyed->Int}
theorem mR {st:SortSt} {i j:Nat} {Q:Unit->SortSt->Prop} (h:Q () (setArr st (mirror (arrOf st) i j ((j - i) / 2)))):wpS M A E s (reverseSlice' i j) Q st:=by
 rw[reverseSlice'_eq];exact CD h
theorem DL {st:SortSt} {lo a nrem:Nat} {Q:AscSt->SortSt->Prop} (od:Od kd Ok rk M A E s) (h0:ZF Ok a₀) (hn:lo+nrem<=a₀.size) (ha:1<=a) (han:a<=nrem) (hB:Sb a₀ kd pd st)
  (hs:QG rk (arrOf st) lo a)
  (h:∀n,a<=n->n<=nrem->QG rk (arrOf st) lo n->(n=nrem\/Kr rk (arrOf st) (lo+n) < Kr rk (arrOf st) (lo+n - 1))->Q (none,n) st):
  wpS M A E s (kI lo a nrem) Q st:=by
 unfold kI
 refine qB (I:=λx c st'=>st'=st/\c=(none,x)/\QG rk (arrOf st) lo x) ?step ?fin ⟨rfl,rfl,hs⟩
 case fin=>
  rintro c st' ⟨rfl,rfl,hs'⟩
  rw[show max a nrem=nrem by omega] at hs' ⊢
  exact h nrem han (pA _) hs' (.inl rfl)
 case step=>
  rintro x c st' hax hxn ⟨rfl,rfl,hs'⟩
  dsimp only
  refine rA (HP od hB h0 (by omega) (by omega) ?_)
  by_cases hless:Kr rk (arrOf st') (lo+x) < Kr rk (arrOf st') (lo+x - 1)
  ·simp only[hless,HD,RC]
   exact yA (h x hax (by omega) hs' (.inr hless))
  ·simp only[hless,uD,QA,HB]
   refine yA ⟨rfl,rfl,λi j hij hj=>?_⟩
   by_cases hjx:j < x
   ·exact hs' i j hij hjx
   ·have hj':j=x:=by omega
    subst hj'
    by_cases hi':i=j
    ·subst hi';exact NB _
    ·have:=hs' i (j - 1) (by omega) (by omega)
     rw[show lo+(j - 1)=lo+j - 1 by omega] at this
     exact nB this (FC.mp hless)
theorem zZ {st:SortSt} {lo n nrem:Nat} {Q:Option Nat->SortSt->Prop} (od:Od kd Ok rk M A E s) (h0:ZF Ok a₀) (hn:lo+nrem<=a₀.size) (h1:1<=n) (hnn:n<=nrem) (hB:Sb a₀ kd pd st)
  (hs:qO rk (arrOf st) lo n) (h:∀m st',Sb a₀ kd pd st'->1<=m->m<=nrem->QG rk (arrOf st') lo m->YG (arrOf st) (arrOf st') lo nrem->Q (some m) st'):
  wpS M A E s (UH lo n nrem) Q st:=by
 unfold UH
 have hsz:lo+n<=(arrOf st).size:=by rw[hB.size];omega
 refine rA (mR ?_)
 have hB':Sb a₀ kd pd (setArr st (mirror (arrOf st) lo (lo+n) ((lo+n - lo) / 2))):=hB.set (mirror_perm _ _ _ _)
 refine rA (DL od h0 hn h1 hnn hB' ?_ λm hm1 hm2 hsm _=>yA (h m _ hB' (by omega) hm2 hsm (lR hsz (pA _) (by omega))))
 intro i j hij hj
 show Kr rk (mirror (arrOf st) lo (lo+n) ((lo+n - lo) / 2)) (lo+i)<=Kr rk (mirror (arrOf st) lo (lo+n) ((lo+n - lo) / 2)) (lo+j)
 rw[mT hsz,mT hsz,iA (by omega),iA (by omega)]
 have:=hs (n - 1 - j) (n - 1 - i) (by omega) (by omega)
 rw[show lo+(lo+n) - 1 - (lo+i)=lo+(n - 1 - i) by omega,show lo+(lo+n) - 1 - (lo+j)=lo+(n - 1 - j) by omega]
 exact this
theorem eN {st:SortSt} {lo n nrem:Nat} {Q:DescSt->SortSt->Prop} (od:Od kd Ok rk M A E s) (h0:ZF Ok a₀) (hn:lo+nrem<=a₀.size) (h1:1<=n) (hnn:n<=nrem) (hB:Sb a₀ kd pd st)
  (hs:qO rk (arrOf st) lo n)
  (h:∀m neq st',Sb a₀ kd pd st'->n<=m->m<=nrem->qO rk (arrOf st') lo m->neq+1<=m->(∀i,m - (neq+1)<=i->i < m->Kr rk (arrOf st') (lo+i)=Kr rk (arrOf st') (lo+m - 1))->YG (arrOf st) (arrOf st') lo nrem->Q (none,m,neq) st'):
  wpS M A E s (zI lo n nrem) Q st:=by
 unfold zI
 refine qB (I:=λx c st'=>∃neq,c=(none,x,neq)/\Sb a₀ kd pd st'/\qO rk (arrOf st') lo x/\neq+1<=x/\
   (∀i,x - (neq+1)<=i->i < x->Kr rk (arrOf st') (lo+i)=Kr rk (arrOf st') (lo+x - 1))/\YG (arrOf st) (arrOf st') lo nrem) ?step ?fin ⟨0,rfl,hB,hs,by omega,λi h1 h2=>by congr 1;omega,YG.rfl'⟩
 case fin=>
  rintro c st' ⟨neq,rfl,hB',hs',hq,he,ho⟩
  rw[show max n nrem=nrem by omega] at hs' hq he ⊢
  exact h nrem neq st' hB' hnn (pA _) hs' hq he ho
 case step=>
  rintro x c st' hax hxn ⟨neq,rfl,hB',hs',hq,he,ho⟩
  dsimp only
  have hsz:lo+x<=(arrOf st').size:=by rw[hB'.size];omega
  have he2:∀k,lo+x - (neq+1)<=k->k < lo+x->Kr rk (arrOf st') k=Kr rk (arrOf st') (lo+x - 1):=λk h1 h2=>by
   have:=he (k - lo) (by omega) (by omega)
   rw[show lo+(k - lo)=k by omega] at this
   exact this
  refine rA (HP od hB' h0 (by omega) (by omega) ?_)
  by_cases hless:Kr rk (arrOf st') (lo+x) < Kr rk (arrOf st') (lo+x - 1)
  ·simp only[hless,HD,RC]
   have step1:∀xs:Array Keyed,(∀k,Kr rk xs k=Kr rk (arrOf st') k)->qO rk xs lo (x+1):=by
    intro xs hk i j hij hj
    rw[hk,hk]
    by_cases hjx:j < x
    ·exact hs' i j hij hjx
    ·have hj':j=x:=by omega
     subst hj'
     by_cases hi':i=j
     ·subst hi';exact NB _
     ·have:=hs' i (j - 1) (by omega) (by omega)
      rw[show lo+(j - 1)=lo+j - 1 by omega] at this
      exact nB (CB hless) this
   by_cases hneq:neq > 0
   ·rw[iA hneq]
    refine rA (mR (yA ⟨0,rfl,hB'.set (mirror_perm _ _ _ _),step1 _ (IP hsz he2),by omega,λi h1 h2=>by congr 1;omega,ho.trans (lR hsz (by omega) (by omega))⟩))
   ·rw[fA hneq]
    exact yA ⟨0,rfl,hB',step1 _ (λ_=>rfl),by omega,λi h1 h2=>by congr 1;omega,ho⟩
  ·simp only[hless,uD,QA,HB]
   refine rA (HP od hB' h0 (by omega) (by omega) ?_)
   by_cases hlarger:Kr rk (arrOf st') (lo+x - 1) < Kr rk (arrOf st') (lo+x)
   ·simp only[hlarger,HD,RC]
    exact yA (h x neq st' hB' hax (by omega) hs' hq he ho)
   ·simp only[hlarger,uD,QA,HB]
    have heqx:Kr rk (arrOf st') (lo+x)=Kr rk (arrOf st') (lo+x - 1):=by omega
    refine yA ⟨neq+1,rfl,hB',λi j hij hj=>?_,by omega,λi h1 h2=>?_,ho⟩
    ·by_cases hjx:j < x
     ·exact hs' i j hij hjx
     ·have hj':j=x:=by omega
      subst hj'
      by_cases hi':i=j
      ·subst hi';exact NB _
      ·have:=hs' i (j - 1) (by omega) (by omega)
       rw[show lo+(j - 1)=lo+j - 1 by omega] at this
       rw[heqx];exact this
    ·rw[show lo+(x+1) - 1=lo+x by omega]
     by_cases hix:i=x
     ·subst hix;rfl
     ·rw[heqx];exact he i (by omega) (by omega)
theorem AZ {st:SortSt} {lo n nrem:Nat} {Q:Option Nat->SortSt->Prop} (od:Od kd Ok rk M A E s) (h0:ZF Ok a₀) (hn:lo+nrem<=a₀.size) (hnn:n+1<=nrem) (hB:Sb a₀ kd pd st)
  (hs:qO rk (arrOf st) lo (n+1)) (h:∀m st',Sb a₀ kd pd st'->1<=m->m<=nrem->QG rk (arrOf st') lo m->YG (arrOf st) (arrOf st') lo nrem->Q (some m) st'):
  wpS M A E s (cH lo n nrem) Q st:=by
 unfold cH
 refine rA (fE (jD ⟨rfl,?_⟩))
 refine rA (eN od h0 hn (by omega) hnn hB hs λm neq st' hB' hm1 hm2 hs' hq he ho=>?_)
 dsimp only
 have hsz:lo+m<=(arrOf st').size:=by rw[hB'.size];omega
 have he2:∀k,lo+m - (neq+1)<=k->k < lo+m->Kr rk (arrOf st') k=Kr rk (arrOf st') (lo+m - 1):=λk h1 h2=>by
  have:=he (k - lo) (by omega) (by omega)
  rw[show lo+(k - lo)=k by omega] at this
  exact this
 by_cases hneq:neq > 0
 ·rw[iA hneq]
  refine rA (mR (zZ od h0 hn (by omega) hm2 (hB'.set (mirror_perm _ _ _ _)) ?_ λm' st2 b1 b2 b3 b4 b5=>h m' st2 b1 b2 b3 b4 ((ho.trans (lR hsz (by omega) (by omega))).trans b5)))
  intro i j hij hj
  show Kr rk (mirror (arrOf st') _ _ _) (lo+j)<=Kr rk (mirror (arrOf st') _ _ _) (lo+i)
  rw[IP hsz he2,IP hsz he2]
  exact hs' i j hij hj
 ·rw[fA hneq]
  exact zZ od h0 hn (by omega) hm2 hB' hs' λm' st2 b1 b2 b3 b4 b5=>h m' st2 b1 b2 b3 b4 (ho.trans b5)
theorem K8 {st:SortSt} {lo nrem:Nat} {Q:Option Nat->SortSt->Prop} (od:Od kd Ok rk M A E s) (h0:ZF Ok a₀) (hn:lo+nrem<=a₀.size) (h1:1<=nrem) (hB:Sb a₀ kd pd st)
  (h:∀m st',Sb a₀ kd pd st'->1<=m->m<=nrem->QG rk (arrOf st') lo m->YG (arrOf st) (arrOf st') lo nrem->Q (some m) st'):
  wpS M A E s (countRun' lo nrem) Q st:=by
 rw[I8]
 refine rA (DL od h0 hn (pA 1) h1 hB (λi j hij hj=>by
  have:i=j:=by omega
  subst this;exact NB _) λn hn1 hn2 hsn hor=>?_)
 dsimp only
 by_cases hnn:n=nrem
 ·rw[iA (by simpa using hnn)]
  exact yA (h n st hB hn1 hn2 hsn YG.rfl')
 ·rw[fA (by simpa using hnn)]
  have hlt:=hor.resolve_left hnn
  by_cases hgt:n > 1
  ·rw[iA hgt]
   refine rA (HP od hB h0 (by omega) (by omega) ?_)
   by_cases hrose:Kr rk (arrOf st) lo < Kr rk (arrOf st) (lo+n - 1)
   ·simp only[hrose,HD,RC]
    exact yA (h n st hB hn1 hn2 hsn YG.rfl')
   ·simp only[hrose,uD,QA,HB]
    have hsz:lo+n<=(arrOf st).size:=by rw[hB.size];omega
    have hall:∀k,lo<=k->k < lo+n->Kr rk (arrOf st) k=Kr rk (arrOf st) (lo+n - 1):=by
     intro k h1 hk
     have a1:=hsn 0 (k - lo) (by omega) (by omega)
     have a2:=hsn (k - lo) (n - 1) (by omega) (by omega)
     rw[show lo+(k - lo)=k by omega] at a1 a2
     rw[show lo+(n - 1)=lo+n - 1 by omega] at a2
     rw[Nat.add_zero] at a1
     omega
    refine rA (mR (AZ od h0 hn (by omega) (hB.set (mirror_perm _ _ _ _)) ?_ λm' st2 b1 b2 b3 b4 b5=>h m' st2 b1 b2 b3 b4 ((lR hsz (pA _) (by omega)).trans b5)))
    intro i j hij hj
    show Kr rk (mirror (arrOf st) _ _ _) (lo+j)<=Kr rk (mirror (arrOf st) _ _ _) (lo+i)
    rw[IP hsz hall,IP hsz hall]
    by_cases hjn:j < n
    ·rw[hall (lo+i) (by omega) (by omega),hall (lo+j) (by omega) (by omega)];exact NB _
    ·have hj':j=n:=by omega
     subst hj'
     by_cases hi':i=j
     ·subst hi';exact NB _
     ·rw[hall (lo+i) (by omega) (by omega)];exact CB hlt
  ·rw[fA hgt]
   have hn1':n=1:=by omega
   subst hn1'
   refine AZ od h0 hn (by omega) hB ?_ h
   intro i j hij hj
   by_cases hi':i=j
   ·subst hi';exact NB _
   ·have hi0:i=0:=by omega
    have hj1:j=1:=by omega
    subst hi0;subst hj1
    exact CB hlt
end
noncomputable def aG:Bool->Keyed->Array Keyed->Nat->Nat->Nat->StateT SortSt Sem (Option Nat):=sortPriv% PySem.Builtin.gallop
noncomputable def bJ (left:Bool) (key:Keyed) (arr:Array Keyed) (base i:Nat):StateT SortSt Sem (Option Bool):=do
 let x<-elem' arr (base+i)
 if left then lt' x key else return (<-lt' key x).map (!·)
theorem M8 (left:Bool) (key:Keyed) (arr:Array Keyed) (base n hint:Nat):aG left key arr base n hint=(do
 let mut lastofs:=0
 let mut ofs:=1
 let mut lo:=0
 let mut hi:=0
 let some right<-bJ left key arr base hint|return none
 if right then
  let maxofs:=n - hint
  for _ in [0:n] do
   if ofs>=maxofs then break
   let some more<-bJ left key arr base (hint+ofs)|return none
   if !more then break
   lastofs:=ofs
   ofs:=2 * ofs+1
  lo:=hint+lastofs+1
  hi:=hint+min ofs maxofs
 else
  let maxofs:=hint+1
  for _ in [0:n] do
   if ofs>=maxofs then break
   let some found<-bJ left key arr base (hint - ofs)|return none
   if found then break
   lastofs:=ofs
   ofs:=2 * ofs+1
  lo:=hint+1 - min ofs maxofs
  hi:=hint - lastofs
 for _ in [0:n] do
  if lo>=hi then break
  let m:=lo+(hi - lo) / 2
  let some more<-bJ left key arr base m|return none
  if more then lo:=m+1 else hi:=m
 return some hi):=rfl
noncomputable def bB (rk:Keyed->Int) (left:Bool) (key:Keyed) (arr:Array Keyed) (base i:Nat):Bool:=if left=true then decide (Kr rk arr (base+i) < rk key) else !decide (rk key < Kr rk arr (base+i))
section
variable {M:Model} {A:Around} {E:Value->Shared->Prop} {s:Shared} {a₀:Array Keyed} {kd:SortKind} {pd:Array (Nat×Nat×Nat)} {Ok:Keyed->Prop} {rk:Keyed->Int}
theorem fN {left:Bool} {key:Keyed} {arr:Array Keyed} {base i:Nat} {st:SortSt} {p:Keyed} {Q:Option Bool->SortSt->Prop} (od:Od kd Ok rk M A E s) (hk:kindOf st=kd) (ok:Ok key) (hp:arr[base+i]?=some p) (op:Ok p)
  (q:Q (some (bB rk left key arr base i)) st):wpS M A E s (bJ left key arr base i) Q st:=by
 unfold bJ
 refine rA (tH hp ?_)
 unfold bB at q
 rw[oH hp] at q
 cases left with
 |true=>
  rw[iA rfl] at q ⊢
  exact od st p key Q hk op ok q
 |false=>
  rw[fA oA] at q ⊢
  exact rA (od st key p _ hk ok op (yA q))
theorem N8 {left:Bool} {key:Keyed} {arr:Array Keyed} {base n i j:Nat} (hs:QG rk arr base n) (hij:i<=j) (hj:j < n) (h:bB rk left key arr base j=true):bB rk left key arr base i=true:=by
 have:=hs i j hij hj
 unfold bB at h ⊢
 cases left with
 |true=>
  rw[iA rfl] at h ⊢
  have h:=KB h
  exact AA (by omega)
 |false=>
  rw[fA oA] at h ⊢
  have h:decide (rk key < Kr rk arr (base+j))=false:=by simpa using h
  have h:=QB h
  rw[vA (by omega)]
  rfl
theorem rO {left:Bool} {key:Keyed} {arr:Array Keyed} {base n hint:Nat} {st:SortSt} {Q:Option Nat->SortSt->Prop} (od:Od kd Ok rk M A E s) (hk:kindOf st=kd) (ok:Ok key) (hok:∀i,i < n->∃p,arr[base+i]?=some p/\Ok p) (hs:QG rk arr base n) (hh:hint < n)
  (q:∀k,k<=n->(∀i,i < k->bB rk left key arr base i=true)->(∀i,k<=i->i < n->bB rk left key arr base i=false)->Q (some k) st):wpS M A E s (aG left key arr base n hint) Q st:=by
 have by_:∀(i:Nat) (R:Option Bool->SortSt->Prop),i < n->R (some (bB rk left key arr base i)) st->wpS M A E s (bJ left key arr base i) R st:=λi R hi r=>by
  obtain⟨p,hp,op⟩:=hok i hi
  exact fN od hk ok hp op r
 have mono:∀i j,i<=j->j < n->bB rk left key arr base j=true->bB rk left key arr base i=true:=λi j h1 h2 h3=>N8 hs h1 h2 h3
 have nmono:∀i j,i<=j->j < n->bB rk left key arr base i=false->bB rk left key arr base j=false:=λi j h1 h2 h3=>by
  cases e:bB rk left key arr base j with
  |false=>rfl
  |true=>rw[mono i j h1 h2 e] at h3;cases h3
 generalize hB:bB rk left key arr base=B at *
 rw[M8]
 refine rA (by_ hint _ hh ?_)
 cases e:B hint with
 |true=>
  simp only[RC]
  refine rA (BB (qB (I:=λx c st'=>st'=st/\∃l o,c=(none,l,o)/\l < o/\hint+l < n/\B (hint+l)=true/\x+1<=o)
   (Q:=λc st'=>st'=st/\∃l o,c=(none,l,o)/\l < o/\hint+l < n/\B (hint+l)=true/\(n - hint<=o\/(hint+o < n/\B (hint+o)=false))) ?step ?fin ?init) ?post)
  case init=>exact⟨rfl,0,1,rfl,by omega,by omega,e,by omega⟩
  case fin=>
   rintro c st' ⟨rfl,l,o,rfl,a1,a2,a3,a4⟩
   exact⟨rfl,l,o,rfl,a1,a2,a3,.inl (by omega)⟩
  case step=>
   rintro x c st' _ hx ⟨rfl,l,o,rfl,a1,a2,a3,a4⟩
   dsimp only
   by_cases c:o>=n - hint
   ·rw[iA c]
    exact yA ⟨rfl,l,o,rfl,a1,a2,a3,.inl c⟩
   ·rw[fA c]
    refine rA (by_ _ _ (by omega) ?_)
    cases e2:B (hint+o) with
    |true=>
     simp only[Bool.not_true,QA,HB]
     exact yA ⟨rfl,o,2 * o+1,rfl,by omega,by omega,e2,by omega⟩
    |false=>
     simp only[Bool.not_false,RC]
     exact yA ⟨rfl,l,o,rfl,a1,a2,a3,.inr ⟨by omega,e2⟩⟩
  case post=>
   rintro c st2 ⟨e9,l,o,rfl,a1,a2,a3,a4⟩
   rw[e9]
   dsimp only
   have h1:hint+l+1<=hint+min o (n - hint):=by omega
   have h2:hint+min o (n - hint)<=n:=by omega
   have h3:∀i,i < hint+l+1->B i=true:=λi hi=>mono i _ (by omega) a2 a3
   have h4:∀i,hint+min o (n - hint)<=i->i < n->B i=false:=λi h1 h2=>by
    rcases a4 with a4|⟨a4,a5⟩
    ·omega
    ·exact nmono (hint+o) i (by omega) h2 a5
   generalize hint+l+1=lo at *
   generalize hint+min o (n - hint)=hi at *
   refine rA (BB (qB (I:=λx c st'=>st'=st/\∃lo hi,c=(none,lo,hi)/\lo<=hi/\hi<=n/\hi - lo<=n - x/\(∀i,i < lo->B i=true)/\(∀i,hi<=i->i < n->B i=false))
    (Q:=λc st'=>st'=st/\∃hi,c=(none,hi,hi)/\hi<=n/\(∀i,i < hi->B i=true)/\(∀i,hi<=i->i < n->B i=false)) ?step ?fin ?init) ?post)
   case init=>exact⟨rfl,lo,hi,rfl,h1,h2,by omega,h3,h4⟩
   case fin=>
    rintro c st' ⟨rfl,lo,hi,rfl,a1,a2,a3,a4,a5⟩
    have:lo=hi:=by omega
    subst this
    exact⟨rfl,lo,rfl,a2,a4,a5⟩
   case post=>
    rintro c st' ⟨rfl,hi,rfl,a2,a4,a5⟩
    exact yA (q hi a2 a4 a5)
   case step=>
    rintro x c st' _ hx ⟨rfl,lo,hi,rfl,a1,a2,a3,a4,a5⟩
    dsimp only
    by_cases c:lo>=hi
    ·rw[iA c]
     have:lo=hi:=by omega
     subst this
     exact yA ⟨rfl,lo,rfl,a2,a4,a5⟩
    ·rw[fA c]
     refine rA (by_ _ _ (by omega) ?_)
     cases e:B (lo+(hi - lo) / 2) with
     |true=>
      simp only[RC]
      exact yA ⟨rfl,_,hi,rfl,by omega,a2,by omega,λi hi'=>mono i _ (by omega) (by omega) e,a5⟩
     |false=>
      simp only[QA,HB]
      exact yA ⟨rfl,lo,_,rfl,by omega,by omega,by omega,a4,λi h1 h2=>nmono _ i h1 h2 e⟩
 |false=>
  simp only[QA,HB]
  refine rA (BB (qB (I:=λx c st'=>st'=st/\∃l o,c=(none,l,o)/\l < o/\l<=hint/\B (hint - l)=false/\x+1<=o)
   (Q:=λc st'=>st'=st/\∃l o,c=(none,l,o)/\l < o/\l<=hint/\B (hint - l)=false/\(hint+1<=o\/(o<=hint/\B (hint - o)=true))) ?step ?fin ?init) ?post)
  case init=>exact⟨rfl,0,1,rfl,by omega,by omega,e,by omega⟩
  case fin=>
   rintro c st' ⟨rfl,l,o,rfl,a1,a2,a3,a4⟩
   exact⟨rfl,l,o,rfl,a1,a2,a3,.inl (by omega)⟩
  case step=>
   rintro x c st' _ hx ⟨rfl,l,o,rfl,a1,a2,a3,a4⟩
   dsimp only
   by_cases c:o>=hint+1
   ·rw[iA c]
    exact yA ⟨rfl,l,o,rfl,a1,a2,a3,.inl c⟩
   ·rw[fA c]
    refine rA (by_ _ _ (by omega) ?_)
    cases e2:B (hint - o) with
    |true=>
     simp only[RC]
     exact yA ⟨rfl,l,o,rfl,a1,a2,a3,.inr ⟨by omega,e2⟩⟩
    |false=>
     simp only[QA,HB]
     exact yA ⟨rfl,o,2 * o+1,rfl,by omega,by omega,e2,by omega⟩
  case post=>
   rintro c st2 ⟨e9,l,o,rfl,a1,a2,a3,a4⟩
   rw[e9]
   dsimp only
   have h1:hint+1 - min o (hint+1)<=hint - l:=by omega
   have h2:hint - l<=n:=by omega
   have h3:∀i,i < hint+1 - min o (hint+1)->B i=true:=λi hi=>by
    rcases a4 with a4|⟨a4,a5⟩
    ·omega
    ·exact mono i (hint - o) (by omega) (by omega) a5
   have h4:∀i,hint - l<=i->i < n->B i=false:=λi h1 h2=>nmono (hint - l) i (by omega) h2 a3
   generalize hint+1 - min o (hint+1)=lo at *
   generalize hint - l=hi at *
   refine rA (BB (qB (I:=λx c st'=>st'=st/\∃lo hi,c=(none,lo,hi)/\lo<=hi/\hi<=n/\hi - lo<=n - x/\(∀i,i < lo->B i=true)/\(∀i,hi<=i->i < n->B i=false))
    (Q:=λc st'=>st'=st/\∃hi,c=(none,hi,hi)/\hi<=n/\(∀i,i < hi->B i=true)/\(∀i,hi<=i->i < n->B i=false)) ?step ?fin ?init) ?post)
   case init=>exact⟨rfl,lo,hi,rfl,h1,h2,by omega,h3,h4⟩
   case fin=>
    rintro c st' ⟨rfl,lo,hi,rfl,a1,a2,a3,a4,a5⟩
    have:lo=hi:=by omega
    subst this
    exact⟨rfl,lo,rfl,a2,a4,a5⟩
   case post=>
    rintro c st' ⟨rfl,hi,rfl,a2,a4,a5⟩
    exact yA (q hi a2 a4 a5)
   case step=>
    rintro x c st' _ hx ⟨rfl,lo,hi,rfl,a1,a2,a3,a4,a5⟩
    dsimp only
    by_cases c:lo>=hi
    ·rw[iA c]
     have:lo=hi:=by omega
     subst this
     exact yA ⟨rfl,lo,rfl,a2,a4,a5⟩
    ·rw[fA c]
     refine rA (by_ _ _ (by omega) ?_)
     cases e:B (lo+(hi - lo) / 2) with
     |true=>
      simp only[RC]
      exact yA ⟨rfl,_,hi,rfl,by omega,a2,by omega,λi hi'=>mono i _ (by omega) (by omega) e,a5⟩
     |false=>
      simp only[QA,HB]
      exact yA ⟨rfl,lo,_,rfl,by omega,by omega,by omega,a4,λi h1 h2=>nmono _ i h1 h2 e⟩
end
noncomputable def uH:Array Keyed->Array Keyed->StateT SortSt Sem (Array Keyed):=sortPriv% PySem.Builtin.mergeLo
noncomputable def iK (g:Nat):StateT SortSt Sem Unit:=modify λs=>SortSt.mk' (kindOf s) (arrOf s) (pendingOf s) g (failedOf s)
noncomputable abbrev T6:=Option (Array Keyed)×Array Keyed×Nat×Nat×Nat×Nat
noncomputable abbrev T7:=Option (Array Keyed)×Array Keyed×Nat×Nat×Nat×Nat×Nat
noncomputable abbrev T5:=Option (Array Keyed)×Array Keyed×Nat×Nat×Nat
noncomputable def nR (a b:Array Keyed) (out:Array Keyed) (ia ib g k k1:Nat):StateT SortSt Sem (ForInStep T7):=do
 let x<-elem' a ia
 if (ia+1+1 == a.size)=true then pure (ForInStep.done (some (out.push x++b.extract ib b.size++a.extract (ia+1) a.size),out.push x,ia+1,ib,g,k,k1))
 else if (decide (k < 7)&&decide (k1 < 7))=true then pure (ForInStep.done (none,out.push x,ia+1,ib,g,k,k1))
 else pure (ForInStep.yield (none,out.push x,ia+1,ib,g,k,k1))
noncomputable def oR (a b:Array Keyed) (out:Array Keyed) (ia ib g k bc:Nat):StateT SortSt Sem (ForInStep T7):=do
 let y<-elem' b ib
 if (ib+1 == b.size)=true then pure (ForInStep.done (some (out.push y++a.extract ia a.size++b.extract (ib+1) b.size),out.push y,ia,ib+1,g,k,bc))
 else do
  let x<-elem' a ia
  let r<-aG true x b (ib+1) (b.size - (ib+1)) 0
  match r with
  |some k1=>
   if k1 > 0 then
    if (ib+1+k1 == b.size)=true then pure (ForInStep.done (some (out.push y++b.extract (ib+1) (ib+1+k1)++a.extract ia a.size++b.extract (ib+1+k1) b.size),out.push y++b.extract (ib+1) (ib+1+k1),ia,ib+1+k1,g,k,k1))
    else nR a b (out.push y++b.extract (ib+1) (ib+1+k1)) ia (ib+1+k1) g k k1
   else nR a b (out.push y) ia (ib+1) g k k1
  |_=>pure (ForInStep.done (some (out.push y++a.extract ia a.size++b.extract (ib+1) b.size),out.push y,ia,ib+1,g,k,bc))
noncomputable def JP (a b:Array Keyed) (out:Array Keyed) (ia ib g ac bc:Nat):StateT SortSt Sem (ForInStep T7):=do
 iK g
 let y<-elem' b ib
 let r<-aG false y a ia (a.size - ia) 0
 match r with
 |some k=>
  if k > 0 then
   if (ia+k+1 == a.size)=true then pure (ForInStep.done (some (out++a.extract ia (ia+k)++b.extract ib b.size++a.extract (ia+k) a.size),out++a.extract ia (ia+k),ia+k,ib,g,k,bc))
   else if (ia+k == a.size)=true then pure (ForInStep.done (some (out++a.extract ia (ia+k)++a.extract (ia+k) a.size++b.extract ib b.size),out++a.extract ia (ia+k),ia+k,ib,g,k,bc))
   else oR a b (out++a.extract ia (ia+k)) (ia+k) ib g k bc
  else oR a b out ia ib g k bc
 |_=>pure (ForInStep.done (some (out++a.extract ia a.size++b.extract ib b.size),out,ia,ib,g,ac,bc))
noncomputable def pT (a b:Array Keyed) (mg:Nat) (s:T6):StateT SortSt Sem (ForInStep T6):=do
 let y<-elem' b s.snd.snd.snd.fst
 let x<-elem' a s.snd.snd.fst
 let r<-lt' y x
 match r with
 |some bw=>
  if bw=true then do
   let y<-elem' b s.snd.snd.snd.fst
   if (s.snd.snd.snd.fst+1 == b.size)=true then pure (ForInStep.done (some (s.snd.fst.push y++a.extract s.snd.snd.fst a.size++b.extract (s.snd.snd.snd.fst+1) b.size),s.snd.fst.push y,s.snd.snd.fst,s.snd.snd.snd.fst+1,0,s.snd.snd.snd.snd.snd+1))
   else if s.snd.snd.snd.snd.snd+1>=mg then pure (ForInStep.done (none,s.snd.fst.push y,s.snd.snd.fst,s.snd.snd.snd.fst+1,0,s.snd.snd.snd.snd.snd+1))
   else pure (ForInStep.yield (none,s.snd.fst.push y,s.snd.snd.fst,s.snd.snd.snd.fst+1,0,s.snd.snd.snd.snd.snd+1))
  else do
   let x<-elem' a s.snd.snd.fst
   if (s.snd.snd.fst+1+1 == a.size)=true then pure (ForInStep.done (some (s.snd.fst.push x++b.extract s.snd.snd.snd.fst b.size++a.extract (s.snd.snd.fst+1) a.size),s.snd.fst.push x,s.snd.snd.fst+1,s.snd.snd.snd.fst,s.snd.snd.snd.snd.fst+1,0))
   else if s.snd.snd.snd.snd.fst+1>=mg then pure (ForInStep.done (none,s.snd.fst.push x,s.snd.snd.fst+1,s.snd.snd.snd.fst,s.snd.snd.snd.snd.fst+1,0))
   else pure (ForInStep.yield (none,s.snd.fst.push x,s.snd.snd.fst+1,s.snd.snd.snd.fst,s.snd.snd.snd.snd.fst+1,0))
 |_=>pure (ForInStep.done (some (s.snd.fst++a.extract s.snd.snd.fst a.size++b.extract s.snd.snd.snd.fst b.size),s.snd.fst,s.snd.snd.fst,s.snd.snd.snd.fst,s.snd.snd.snd.snd.fst,s.snd.snd.snd.snd.snd))
noncomputable def BZ (a b:Array Keyed) (s:T7):StateT SortSt Sem (ForInStep T7):=
 if s.snd.snd.snd.snd.fst > 1 then JP a b s.snd.fst s.snd.snd.fst s.snd.snd.snd.fst (s.snd.snd.snd.snd.fst - 1) s.snd.snd.snd.snd.snd.fst s.snd.snd.snd.snd.snd.snd
 else JP a b s.snd.fst s.snd.snd.fst s.snd.snd.snd.fst s.snd.snd.snd.snd.fst s.snd.snd.snd.snd.snd.fst s.snd.snd.snd.snd.snd.snd
noncomputable def CZ (a b:Array Keyed) (s:T5):StateT SortSt Sem (ForInStep T5):=do
 let t<-forIn [0:a.size+b.size] ((none,s.snd.fst,s.snd.snd.fst,s.snd.snd.snd.fst,0,0):T6) λ_ t=>pT a b s.snd.snd.snd.snd t
 match t.fst with
 |some r=>pure (ForInStep.done (some r,t.snd.fst,t.snd.snd.fst,t.snd.snd.snd.fst,s.snd.snd.snd.snd))
 |none=>do
  liftM (rule "list.sort.gallop")
  let u<-forIn [0:a.size+b.size] ((none,t.snd.fst,t.snd.snd.fst,t.snd.snd.snd.fst,s.snd.snd.snd.snd+1,t.snd.snd.snd.snd.fst,t.snd.snd.snd.snd.snd):T7) λ_ u=>BZ a b u
  match u.fst with
  |some r=>pure (ForInStep.done (some r,u.snd.fst,u.snd.snd.fst,u.snd.snd.snd.fst,u.snd.snd.snd.snd.fst))
  |none=>do
   iK (u.snd.snd.snd.snd.fst+1)
   pure (ForInStep.yield (none,u.snd.fst,u.snd.snd.fst,u.snd.snd.snd.fst,u.snd.snd.snd.snd.fst+1))
theorem O8 (a b:Array Keyed):uH a b=(do
 rule "list.sort.merge-lo"
 let y<-elem' b 0
 if (1 == b.size)=true then pure (#[y]++a.extract 0 a.size++b.extract 1 b.size)
 else if (0+1 == a.size)=true then pure (#[y]++b.extract 1 b.size++a.extract 0 a.size)
 else do
  let st<-get
  let t<-forIn [0:a.size+b.size] ((none, #[y],0,1,gallopOf st):T5) λ_ t=>CZ a b t
  match t.fst with
  |some r=>pure r
  |none=>unsupported "internal:list.sort.merge-bound"):=by kernel_rfl
noncomputable abbrev Up (rk:Keyed->Int) (l:List Keyed):Prop:=l.Pairwise λx y=>rk x<=rk y
structure MI (rk:Keyed->Int) (la lb ol:List Keyed) (ia ib:Nat):Prop where
 pm:(ol++la.drop ia++lb.drop ib).Perm (la++lb)
 so:Up rk ol
 oa:∀x∈ol,∀y∈la.drop ia,rk x<=rk y
 ob:∀x∈ol,∀y∈lb.drop ib,rk x<=rk y
theorem KP {α:Type} {l:List α} {i:Nat} {x:α} (h:l[i]?=some x):l.drop i=x::l.drop (i+1):=by
 obtain⟨h1,h2⟩:=aA.mp h
 rw[<-h2]
 exact qC h1
theorem OK {rk:Keyed->Int} {l:List Keyed} {i:Nat} {x:Keyed} (hu:Up rk l) (h:l[i]?=some x):∀y∈l.drop i,rk x<=rk y:=λy hy=>by
 have hu2:Up rk (l.drop i):=hu.sublist (MC i l)
 rw[KP h] at hu2 hy
 rcases xA.mp hy with rfl|hy
 ·exact NB _
 ·exact (xB.mp hu2).1 y hy
section
variable {rk:Keyed->Int} {la lb ol:List Keyed} {ia ib:Nat} {x y:Keyed}
theorem MI.pushA (h:MI rk la lb ol ia ib) (ha:Up rk la) (hb:Up rk lb) (hx:la[ia]?=some x) (hy:∀y∈lb.drop ib,rk x<=rk y):MI rk la lb (ol++[x]) (ia+1) ib:=by
 have hd:=KP hx
 have hxa:=OK ha hx
 refine⟨?_,?_,?_,?_⟩
 ·have:=h.pm
  rw[hd] at this
  simpa[KA] using this
 ·refine MA.mpr ⟨h.so,WB .., λz hz w hw=>?_⟩
  rw[kA.mp hw]
  exact h.oa z hz x (by rw[hd];exact wA ..)
 ·intro z hz w hw
  rcases GA.mp hz with hz|hz
  ·exact h.oa z hz w (by rw[hd];exact jA _ hw)
  ·rw[kA.mp hz]
   exact hxa w (by rw[hd];exact jA _ hw)
 ·intro z hz w hw
  rcases GA.mp hz with hz|hz
  ·exact h.ob z hz w hw
  ·rw[kA.mp hz]
   exact hy w hw
theorem MI.pushB (h:MI rk la lb ol ia ib) (ha:Up rk la) (hb:Up rk lb) (hy:lb[ib]?=some y) (hx:∀x∈la.drop ia,rk y<=rk x):MI rk la lb (ol++[y]) ia (ib+1):=by
 have hd:=KP hy
 have hyb:=OK hb hy
 refine⟨?_,?_,?_,?_⟩
 ·have:=h.pm
  rw[hd] at this
  refine List.Perm.trans ?_ this
  rw[KA,KA,KA]
  refine JC _ ?_
  exact (YA (a:=y) (l₁:=la.drop ia) (l₂:=lb.drop (ib+1))).symm
 ·refine MA.mpr ⟨h.so,WB .., λz hz w hw=>?_⟩
  rw[kA.mp hw]
  exact h.ob z hz y (by rw[hd];exact wA ..)
 ·intro z hz w hw
  rcases GA.mp hz with hz|hz
  ·exact h.oa z hz w hw
  ·rw[kA.mp hz]
   exact hx w hw
 ·intro z hz w hw
  rcases GA.mp hz with hz|hz
  ·exact h.ob z hz w (by rw[hd];exact jA _ hw)
  ·rw[kA.mp hz]
   exact hyb w (by rw[hd];exact jA _ hw)
theorem pR {l:List Keyed} {i k:Nat} {x:Keyed} (h:l[i+k]?=some x):(l.drop i).take (k+1)=(l.drop i).take k++[x]:=by
 rw[pB,List.getElem?_drop,h];rfl
theorem MI.blkA (ha:Up rk la) (hb:Up rk lb) (h:MI rk la lb ol ia ib):∀k,ia+k<=la.length->(∀i,i < k->∀x,la[ia+i]?=some x->∀y∈lb.drop ib,rk x<=rk y)->MI rk la lb (ol++(la.drop ia).take k) (ia+k) ib
 |0,_,_=>by rw[mC,wC];exact h
 |k+1,hk,hy=>by
  have ih:=MI.blkA ha hb h k (by omega) λi hi=>hy i (by omega)
  obtain⟨x,hx⟩:∃x,la[ia+k]?=some x:=⟨_,bA (by omega)⟩
  rw[pR hx,<-KA]
  exact ih.pushA ha hb hx (hy k (by omega) x hx)
theorem MI.blkB (ha:Up rk la) (hb:Up rk lb) (h:MI rk la lb ol ia ib):∀k,ib+k<=lb.length->(∀i,i < k->∀y,lb[ib+i]?=some y->∀x∈la.drop ia,rk y<=rk x)->MI rk la lb (ol++(lb.drop ib).take k) ia (ib+k)
 |0,_,_=>by rw[mC,wC];exact h
 |k+1,hk,hx=>by
  have ih:=MI.blkB ha hb h k (by omega) λi hi=>hx i (by omega)
  obtain⟨y,hy⟩:∃y,lb[ib+k]?=some y:=⟨_,bA (by omega)⟩
  rw[pR hy,<-KA]
  exact ih.pushB ha hb hy (hx k (by omega) y hy)
noncomputable def RG (rk:Keyed->Int) (la lb:List Keyed) (r:Array Keyed):Prop:=r.toList.Perm (la++lb)/\Up rk r.toList
theorem qR {a:Array Keyed} {i k:Nat}:(a.extract i (i+k)).toList=(a.toList.drop i).take k:=by
 rw[DD]
 show ((a.toList.drop i).take (i+k - i))=_
 rw[show i+k - i=k by omega]
theorem rR {a:Array Keyed} {i:Nat}:(a.extract i a.size).toList=a.toList.drop i:=by
 rw[DD]
 show ((a.toList.drop i).take (a.size - i))=_
 exact List.take_of_length_le (by rw[List.length_drop,zA];exact pA _)
theorem MI.endB {a b out:Array Keyed} (h:MI rk a.toList b.toList out.toList ia ib) (ha:Up rk a.toList) (hb:Up rk b.toList) (hd:ib=b.size\/ia=a.size):RG rk a.toList b.toList (out++a.extract ia a.size++b.extract ib b.size):=by
 unfold RG
 rw[oB,oB,rR,rR]
 refine⟨h.pm,?_⟩
 have sa:Up rk (a.toList.drop ia):=ha.sublist (MC _ _)
 have sb:Up rk (b.toList.drop ib):=hb.sublist (MC _ _)
 rw[KA]
 refine MA.mpr ⟨h.so,MA.mpr ⟨sa,sb,?_⟩,λx hx y hy=>?_⟩
 ·intro x hx y hy
  rcases hd with rfl|rfl
  ·rw[pD (by rw[zA];exact pA _)] at hy;cases hy
  ·rw[pD (by rw[zA];exact pA _)] at hx;cases hx
 ·rcases GA.mp hy with hy|hy
  ·exact h.oa x hx y hy
  ·exact h.ob x hx y hy
theorem MI.endL {a b out:Array Keyed} (h:MI rk a.toList b.toList out.toList ia ib) (ha:Up rk a.toList) (hb:Up rk b.toList) (hl:∀x∈a.toList.drop ia,∀y∈b.toList,rk y<=rk x):RG rk a.toList b.toList (out++b.extract ib b.size++a.extract ia a.size):=by
 unfold RG
 rw[oB,oB,rR,rR]
 have sa:Up rk (a.toList.drop ia):=ha.sublist (MC _ _)
 have sb:Up rk (b.toList.drop ib):=hb.sublist (MC _ _)
 constructor
 ·refine List.Perm.trans ?_ h.pm
  rw[KA,KA]
  exact JC _ List.perm_append_comm
 ·rw[KA]
  refine MA.mpr ⟨h.so,MA.mpr ⟨sb,sa,λx hx y hy=>hl y hy x (GD hx)⟩,λx hx y hy=>?_⟩
  rcases GA.mp hy with hy|hy
  ·exact h.ob x hx y hy
  ·exact h.oa x hx y hy
end
noncomputable def Sk (st st':SortSt):Prop:=arrOf st'=arrOf st/\kindOf st'=kindOf st/\failedOf st'=failedOf st/\pendingOf st'=pendingOf st
theorem Sk.refl (st:SortSt):Sk st st:=⟨rfl,rfl,rfl,rfl⟩
theorem Sk.trans {s1 s2 s3:SortSt} (h:Sk s1 s2) (g:Sk s2 s3):Sk s1 s3:=⟨g.1.trans h.1,g.2.1.trans h.2.1,g.2.2.1.trans h.2.2.1,g.2.2.2.trans h.2.2.2⟩
theorem sR {M:Model} {A:Around} {E:Value->Shared->Prop} {s:Shared} {g:Nat} {st:SortSt} {Q:Unit->SortSt->Prop} (h:∀st',Sk st st'->Q () st'):wpS M A E s (iK g) Q st:=CD (h _ ⟨rfl,rfl,rfl,rfl⟩)
theorem tR {rk:Keyed->Int} {a:Array Keyed} (h:Up rk a.toList) {i n:Nat} (hn:i+n<=a.size):QG rk a i n:=λj k hjk hk=>by
 have h1:i+j < a.toList.length:=by rw[zA];omega
 have h2:i+k < a.toList.length:=by rw[zA];omega
 have e1:Kr rk a (i+j)=rk a.toList[i+j]:=oH (by rw[<-LA];exact bA h1)
 have e2:Kr rk a (i+k)=rk a.toList[i+k]:=oH (by rw[<-LA];exact bA h2)
 rw[e1,e2]
 by_cases c:j=k
 ·subst c;exact NB _
 ·exact cB.mp h (i+j) (i+k) h1 h2 (by omega)
section
variable {M:Model} {A:Around} {E:Value->Shared->Prop} {s:Shared} {kd:SortKind} {Ok:Keyed->Prop} {rk:Keyed->Int} {a b:Array Keyed}
structure Pr (rk:Keyed->Int) (Ok:Keyed->Prop) (a b:Array Keyed):Prop where
 ua:Up rk a.toList
 ub:Up rk b.toList
 oa:∀x∈a.toList,Ok x
 ob:∀x∈b.toList,Ok x
 lst:∀x,a[a.size - 1]?=some x->∀y∈b.toList,rk y < rk x
 fst:∀y,b[0]?=some y->∀x∈a.toList,rk y < rk x
 na:0 < a.size
 nb:0 < b.size
noncomputable def Gd (rk:Keyed->Int) (a b:Array Keyed) (p:Nat) (ret:Option (Array Keyed)) (out:Array Keyed) (ia ib:Nat):Prop:=match ret with
 |some r=>RG rk a.toList b.toList r
 |none=>MI rk a.toList b.toList out.toList ia ib/\ia+1 < a.size/\ib < b.size/\p<=ia+ib
noncomputable def uR (rk:Keyed->Int) (a b:Array Keyed) (p:Nat) (c:T7):Prop:=Gd rk a b p c.1 c.2.1 c.2.2.1 c.2.2.2.1
noncomputable def sO (rk:Keyed->Int) (a b:Array Keyed) (p:Nat) (st:SortSt) (r:ForInStep T7) (st':SortSt):Prop:=Sk st st'/\match r with
 |.done c=>uR rk a b p c
 |.yield c=>c.1=none/\uR rk a b p c
theorem at_ {a:Array Keyed} {i:Nat} (h:i < a.size):∃x,a[i]?=some x/\a.toList[i]?=some x/\x∈a.toList:=by
 refine⟨a[i],GB h,?_,by simp⟩
 rw[LA]
 exact GB h
theorem vR (pr:Pr rk Ok a b) {ia:Nat} (h:ia+1=a.size):∀x∈a.toList.drop ia,∀y∈b.toList,rk y<=rk x:=λx hx y hy=>by
 obtain⟨z,h1,h2,_⟩:=at_ (a:=a) (i:=ia) (by omega)
 have hd2:a.toList.drop (ia+1)=[]:=pD (by rw[zA];omega)
 rw[KP h2,hd2] at hx
 rw[kA.mp hx]
 exact CB (pr.lst z (by rw[show a.size - 1=ia by omega];exact h1) y hy)
theorem EL (pr:Pr rk Ok a b) {out:Array Keyed} {ia ib g k k1 p:Nat} {st:SortSt} (h:MI rk a.toList b.toList out.toList ia ib) (hia:ia+1 < a.size) (hib:ib < b.size) (hx:∀x,a[ia]?=some x->∀y∈b.toList.drop ib,rk x<=rk y) (hp:p<=ia+1+ib):
  wpS M A E s (nR a b out ia ib g k k1) (sO rk a b p st) st:=by
 unfold nR
 obtain⟨x,e1,e2,_⟩:=at_ (a:=a) (i:=ia) (by omega)
 refine rA (tH e1 ?_)
 have h2:MI rk a.toList b.toList (out.push x).toList (ia+1) ib:=by
  rw[zC]
  exact h.pushA pr.ua pr.ub e2 (hx x e1)
 by_cases c:ia+1+1=a.size
 ·rw[iA (by simpa using c)]
  exact yA ⟨Sk.refl _,h2.endL pr.ua pr.ub (vR pr c)⟩
 ·rw[fA (by simpa using c)]
  have hg:Gd rk a b p none (out.push x) (ia+1) ib:=⟨h2,by omega,hib,by omega⟩
  split
  ·exact yA ⟨Sk.refl _,hg⟩
  ·exact yA ⟨Sk.refl _,rfl,hg⟩
theorem FL (od:Od kd Ok rk M A E s) (pr:Pr rk Ok a b) {out:Array Keyed} {ia ib g k bc p:Nat} {st:SortSt} (hk:kindOf st=kd) (h:MI rk a.toList b.toList out.toList ia ib) (hia:ia+1 < a.size) (hib:ib < b.size) (hy:∀y,b[ib]?=some y->∀x∈a.toList.drop ia,rk y<=rk x) (hp:p<=ia+ib+1):
  wpS M A E s (oR a b out ia ib g k bc) (sO rk a b p st) st:=by
 unfold oR
 obtain⟨y,f1,f2,f3⟩:=at_ (a:=b) (i:=ib) hib
 obtain⟨x,e1,e2,e3⟩:=at_ (a:=a) (i:=ia) (by omega)
 refine rA (tH f1 ?_)
 have h2:MI rk a.toList b.toList (out.push y).toList ia (ib+1):=by
  rw[zC]
  exact h.pushB pr.ua pr.ub f2 (hy y f1)
 by_cases c:ib+1=b.size
 ·rw[iA (by simpa using c)]
  exact yA ⟨Sk.refl _,h2.endB pr.ua pr.ub (.inl c)⟩
 ·rw[fA (by simpa using c)]
  refine rA (tH e1 ?_)
  refine rA (rO od hk (pr.oa x e3) (λi hi=>?_) (tR pr.ub (by omega)) (by omega) λk1 hk1 hlt hge=>?_)
  ·obtain⟨z,z1,_,z3⟩:=at_ (a:=b) (i:=ib+1+i) (by omega)
   exact⟨z,z1,pr.ob z z3⟩
  dsimp only
  have hxd:=OK pr.ua e2
  have h3:MI rk a.toList b.toList ((out.push y).toList++(b.toList.drop (ib+1)).take k1) ia (ib+1+k1):=by
   refine MI.blkB pr.ua pr.ub h2 k1 (by rw[zA];omega) λi hi z hz w hw=>?_
   have:=hlt i hi
   unfold bB at this
   rw[iA rfl,oH (show b[ib+1+i]?=some z by rw[<-LA];exact hz)] at this
   exact nB (CB (KB this)) (hxd w hw)
  have hnx:ib+1+k1 < b.size->∀x',a[ia]?=some x'->∀w∈b.toList.drop (ib+1+k1),rk x'<=rk w:=λhlt2 x' hx' w hw=>by
   rw[e1] at hx'
   cases hx'
   obtain⟨z,z1,z2,_⟩:=at_ (a:=b) (i:=ib+1+k1) hlt2
   have:=hge k1 (pA _) (by omega)
   unfold bB at this
   rw[iA rfl,oH z1] at this
   have h9:=QB this
   exact nB (FC.mp h9) (OK pr.ub z2 w hw)
  by_cases ck:k1 > 0
  ·rw[iA ck]
   have h4:MI rk a.toList b.toList (out.push y++b.extract (ib+1) (ib+1+k1)).toList ia (ib+1+k1):=by rw[oB,qR];exact h3
   by_cases c2:ib+1+k1=b.size
   ·rw[iA (by simpa using c2)]
    exact yA ⟨Sk.refl _,h4.endB pr.ua pr.ub (.inl c2)⟩
   ·rw[fA (by simpa using c2)]
    exact EL pr h4 hia (by omega) (hnx (by omega)) (by omega)
  ·rw[fA ck]
   have:k1=0:=by omega
   subst this
   exact EL pr h2 hia (by omega) (hnx (by omega)) (by omega)
theorem LP (od:Od kd Ok rk M A E s) (pr:Pr rk Ok a b) {out:Array Keyed} {ia ib g ac bc p:Nat} {st:SortSt} (hk:kindOf st=kd) (h:MI rk a.toList b.toList out.toList ia ib) (hia:ia+1 < a.size) (hib:ib < b.size) (hp:p<=ia+ib+1):
  wpS M A E s (JP a b out ia ib g ac bc) (sO rk a b p st) st:=by
 unfold JP
 refine rA (sR λst1 sk=>?_)
 have hk1:kindOf st1=kd:=by rw[sk.2.1];exact hk
 have up:∀r st',sO rk a b p st1 r st'->sO rk a b p st r st':=λr st' q=>⟨sk.trans q.1,q.2⟩
 refine BB ?_ up
 obtain⟨y,f1,f2,f3⟩:=at_ (a:=b) (i:=ib) hib
 refine rA (tH f1 ?_)
 refine rA (rO od hk1 (pr.ob y f3) (λi hi=>?_) (tR pr.ua (by omega)) (by omega) λk hk2 hlt hge=>?_)
 ·obtain⟨z,z1,_,z3⟩:=at_ (a:=a) (i:=ia+i) (by omega)
  exact⟨z,z1,pr.oa z z3⟩
 dsimp only
 have hyd:=OK pr.ub f2
 have h3:MI rk a.toList b.toList (out.toList++(a.toList.drop ia).take k) (ia+k) ib:=by
  refine MI.blkA pr.ua pr.ub h k (by rw[zA];omega) λi hi z hz w hw=>?_
  have:=hlt i hi
  unfold bB at this
  rw[fA oA,oH (show a[ia+i]?=some z by rw[<-LA];exact hz)] at this
  have this:decide (rk y < rk z)=false:=by simpa using this
  exact nB (FC.mp (QB this)) (hyd w hw)
 have hnx:ia+k < a.size->∀y',b[ib]?=some y'->∀w∈a.toList.drop (ia+k),rk y'<=rk w:=λhlt2 y' hy' w hw=>by
  rw[f1] at hy'
  cases hy'
  obtain⟨z,z1,z2,_⟩:=at_ (a:=a) (i:=ia+k) hlt2
  have:=hge k (pA _) (by omega)
  unfold bB at this
  rw[fA oA,oH z1] at this
  have this:decide (rk y < rk z)=true:=by simpa using this
  exact nB (CB (KB this)) (OK pr.ua z2 w hw)
 by_cases ck:k > 0
 ·rw[iA ck]
  have h4:MI rk a.toList b.toList (out++a.extract ia (ia+k)).toList (ia+k) ib:=by rw[oB,qR];exact h3
  by_cases c:ia+k+1=a.size
  ·rw[iA (by simpa using c)]
   exact yA ⟨Sk.refl _,h4.endL pr.ua pr.ub (vR pr c)⟩
  ·rw[fA (by simpa using c)]
   by_cases c2:ia+k=a.size
   ·rw[iA (by simpa using c2)]
    exact yA ⟨Sk.refl _,h4.endB pr.ua pr.ub (.inr c2)⟩
   ·rw[fA (by simpa using c2)]
    exact FL od pr hk1 h4 (by omega) hib (hnx (by omega)) (by omega)
 ·rw[fA ck]
  have:k=0:=by omega
  subst this
  exact FL od pr hk1 h hia hib (hnx (by omega)) (by omega)
theorem MP (od:Od kd Ok rk M A E s) (pr:Pr rk Ok a b) {out:Array Keyed} {ia ib mg ac bc p:Nat} {st:SortSt} (hk:kindOf st=kd) (h:MI rk a.toList b.toList out.toList ia ib) (hia:ia+1 < a.size) (hib:ib < b.size) (hp:p<=ia+ib+1):
  wpS M A E s (pT a b mg (none,out,ia,ib,ac,bc)) (λr st'=>st'=st/\match r with
   |.done c=>Gd rk a b p c.1 c.2.1 c.2.2.1 c.2.2.2.1
   |.yield c=>c.1=none/\Gd rk a b p c.1 c.2.1 c.2.2.1 c.2.2.2.1) st:=by
 unfold pT
 dsimp only
 obtain⟨y,f1,f2,f3⟩:=at_ (a:=b) (i:=ib) hib
 obtain⟨x,e1,e2,e3⟩:=at_ (a:=a) (i:=ia) (by omega)
 refine rA (tH f1 (rA (tH e1 (rA (od st y x _ hk (pr.ob y f3) (pr.oa x e3) ?_)))))
 dsimp only
 have hyd:=OK pr.ub f2
 have hxd:=OK pr.ua e2
 by_cases hlt:rk y < rk x
 ·rw[AA hlt,iA rfl]
  refine rA (tH f1 ?_)
  have h2:MI rk a.toList b.toList (out.push y).toList ia (ib+1):=by
   rw[zC]
   exact h.pushB pr.ua pr.ub f2 λw hw=>nB (CB hlt) (hxd w hw)
  by_cases c:ib+1=b.size
  ·rw[iA (by simpa using c)]
   exact yA ⟨rfl,h2.endB pr.ua pr.ub (.inl c)⟩
  ·rw[fA (by simpa using c)]
   have hg:Gd rk a b p none (out.push y) ia (ib+1):=⟨h2,hia,by omega,by omega⟩
   split
   ·exact yA ⟨rfl,hg⟩
   ·exact yA ⟨rfl,rfl,hg⟩
 ·rw[vA hlt,fA oA]
  refine rA (tH e1 ?_)
  have h2:MI rk a.toList b.toList (out.push x).toList (ia+1) ib:=by
   rw[zC]
   exact h.pushA pr.ua pr.ub e2 λw hw=>nB (FC.mp hlt) (hyd w hw)
  by_cases c:ia+1+1=a.size
  ·rw[iA (by simpa using c)]
   exact yA ⟨rfl,h2.endL pr.ua pr.ub (vR pr c)⟩
  ·rw[fA (by simpa using c)]
   have hg:Gd rk a b p none (out.push x) (ia+1) ib:=⟨h2,by omega,hib,by omega⟩
   split
   ·exact yA ⟨rfl,hg⟩
   ·exact yA ⟨rfl,rfl,hg⟩
theorem P8 (od:Od kd Ok rk M A E s) (pr:Pr rk Ok a b) {st:SortSt} {Q:Array Keyed->SortSt->Prop} (hk:kindOf st=kd) (q:∀r st',Sk st st'->RG rk a.toList b.toList r->Q r st'):wpS M A E s (uH a b) Q st:=by
 rw[O8]
 refine rA (fE (jD ⟨rfl,?_⟩))
 obtain⟨y,f1,f2,f3⟩:=at_ (a:=b) (i:=0) pr.nb
 refine rA (tH f1 ?_)
 have h1:MI rk a.toList b.toList (#[y]:Array Keyed).toList 0 1:=by
  refine⟨?_,WB .., λx hx w hw=>?_,λx hx w hw=>?_⟩
  ·have hd:=KP f2
   rw[ND] at hd
   rw[ND]
   show ([y]++a.toList++b.toList.drop 1).Perm (a.toList++b.toList)
   conv=>rhs;rw[hd]
   exact (YA (a:=y) (l₁:=a.toList) (l₂:=b.toList.drop 1)).symm
  ·rw[kA.mp hx]
   exact CB (pr.fst y f1 w (GD hw))
  ·rw[kA.mp hx]
   exact OK pr.ub f2 w (by rw[ND];exact GD hw)
 by_cases c1:1=b.size
 ·rw[iA (by simpa using c1)]
  exact yA (q _ _ (Sk.refl _) (h1.endB pr.ua pr.ub (.inl c1)))
 ·rw[fA (by simpa using c1)]
  have nb:=pr.nb
  have na:=pr.na
  by_cases c2:0+1=a.size
  ·rw[iA (by simpa using c2)]
   exact yA (q _ _ (Sk.refl _) (h1.endL pr.ua pr.ub (vR pr c2)))
  ·rw[fA (by simpa using c2)]
   refine rA (KD ?_)
   refine rA (BB (qB (I:=λx c st'=>Sk st st'/\c.1=none/\Gd rk a b (x+1) c.1 c.2.1 c.2.2.1 c.2.2.2.1) (Q:=λc st'=>Sk st st'/\∃r,c.1=some r/\RG rk a.toList b.toList r) ?step ?fin ?init) ?post)
   case init=>exact⟨Sk.refl _,rfl,h1,(show 0+1 < a.size by omega),(show 1 < b.size by omega),pA _⟩
   case fin=>
    rintro⟨ret,out,ia,ib,g⟩ st' ⟨_,e,hg⟩
    have e:ret=none:=e
    subst e
    obtain⟨_,g1,g2,g3⟩:=hg
    have g1:ia+1 < a.size:=g1
    have g2:ib < b.size:=g2
    have g3:max 0 (a.size+b.size)+1<=ia+ib:=g3
    omega
   case post=>
    rintro⟨ret,out,ia,ib,g⟩ st' ⟨sk,r,e,hf⟩
    have e:ret=some r:=e
    subst e
    exact yA (q r st' sk hf)
   case step=>
    rintro x ⟨ret,out,ia,ib,g⟩ st1 _ hx ⟨sk1,e,hg⟩
    have e:ret=none:=e
    subst e
    obtain⟨g0,g1,g2,g3⟩:=hg
    have g0:MI rk a.toList b.toList out.toList ia ib:=g0
    have g1:ia+1 < a.size:=g1
    have g2:ib < b.size:=g2
    have g3:x+1<=ia+ib:=g3
    have hk1:kindOf st1=kd:=by rw[sk1.2.1];exact hk
    unfold CZ
    dsimp only
    refine rA (BB (qB (I:=λz c st'=>st'=st1/\c.1=none/\Gd rk a b (x+1+min z 1) c.1 c.2.1 c.2.2.1 c.2.2.2.1) (Q:=λc st'=>st'=st1/\Gd rk a b (x+2) c.1 c.2.1 c.2.2.1 c.2.2.2.1) ?s1 ?f1 ?i1) ?p1)
    case i1=>exact⟨rfl,rfl,g0,g1,g2,by simpa using g3⟩
    case f1=>
     rintro c st' ⟨e1,_,hg⟩
     refine⟨e1,?_⟩
     rwa[show x+1+min (max 0 (a.size+b.size)) 1=x+2 by omega] at hg
    case s1=>
     rintro z ⟨ret,out,ia,ib,ac,bc⟩ st' _ hz ⟨rfl,e,hg⟩
     have e:ret=none:=e
     subst e
     obtain⟨g0,g1,g2,g3⟩:=hg
     have g3:x+1+min z 1<=ia+ib:=g3
     refine BB (MP (p:=x+2) od pr hk1 g0 g1 g2 (by omega)) λr st2 q2=>?_
     obtain⟨rfl,q2⟩:=q2
     cases r with
     |done c=>exact⟨rfl,q2⟩
     |yield c=>
      refine⟨rfl,q2.1,?_⟩
      rw[show x+1+min (z+1) 1=x+2 by omega]
      exact q2.2
    case p1=>
     rintro⟨ret,out,ia,ib,ac,bc⟩ st' ⟨rfl,hg⟩
     cases ret with
     |some r=>exact yA ⟨sk1,r,rfl,hg⟩
     |none=>
      obtain⟨g0,g1,g2,g3⟩:=hg
      have g0:MI rk a.toList b.toList out.toList ia ib:=g0
      have g1:ia+1 < a.size:=g1
      have g2:ib < b.size:=g2
      have g3:x+2<=ia+ib:=g3
      dsimp only
      refine rA (fE (jD ⟨rfl,?_⟩))
      refine rA (BB (qB (I:=λz c st2=>Sk st2 st2/\Sk st' st2/\c.1=none/\uR rk a b (x+2) c) (Q:=λc st2=>Sk st' st2/\uR rk a b (x+2) c) ?s2 ?f2 ?i2) ?p2)
      case i2=>exact⟨Sk.refl _,Sk.refl _,rfl,g0,g1,g2,g3⟩
      case f2=>
       rintro c st2 ⟨_,e1,_,hg⟩
       exact⟨e1,hg⟩
      case s2=>
       rintro z ⟨ret,out,ia,ib,gg,ac,bc⟩ st2 _ hz ⟨_,sk2,e,hg⟩
       have e:ret=none:=e
       subst e
       obtain⟨g0,g1,g2,g3⟩:=hg
       have g3:x+2<=ia+ib:=g3
       have hk2:kindOf st2=kd:=by rw[sk2.2.1];exact hk1
       have go:∀gg',wpS M A E s (JP a b out ia ib gg' ac bc) (sO rk a b (x+2) st2) st2:=λgg'=>LP od pr hk2 g0 g1 g2 (by omega)
       unfold BZ
       dsimp only
       split
       ·refine BB (go _) λr st3 q3=>?_
        obtain⟨q4,q5⟩:=q3
        cases r with
        |done c=>exact⟨sk2.trans q4,q5⟩
        |yield c=>exact⟨Sk.refl _,sk2.trans q4,q5.1,q5.2⟩
       ·refine BB (go _) λr st3 q3=>?_
        obtain⟨q4,q5⟩:=q3
        cases r with
        |done c=>exact⟨sk2.trans q4,q5⟩
        |yield c=>exact⟨Sk.refl _,sk2.trans q4,q5.1,q5.2⟩
      case p2=>
       rintro⟨ret,out,ia,ib,gg,ac,bc⟩ st2 ⟨sk2,hg⟩
       cases ret with
       |some r=>exact yA ⟨sk1.trans sk2,r,rfl,hg⟩
       |none=>
        obtain⟨g0,g1,g2,g3⟩:=hg
        dsimp only
        refine rA (sR λst3 sk3=>yA ⟨sk1.trans (sk2.trans sk3),rfl,g0,g1,g2,?_⟩)
        exact g3
end
noncomputable def vH:Array Keyed->Array Keyed->StateT SortSt Sem (Array Keyed):=sortPriv% PySem.Builtin.mergeHi
noncomputable abbrev U6:=Option (Array Keyed)×Nat×Nat×Array Keyed×Nat×Nat
noncomputable abbrev U7:=Option (Array Keyed)×Nat×Nat×Array Keyed×Nat×Nat×Nat
noncomputable abbrev U5:=Option (Array Keyed)×Nat×Nat×Array Keyed×Nat
noncomputable def EG (a b:Array Keyed) (out:Array Keyed) (na nb:Nat):Array Keyed:=a.extract 0 na++b.extract 0 nb++out.reverse
noncomputable def xJ (a b:Array Keyed) (out:Array Keyed) (na nb:Nat):Array Keyed:=b.extract 0 nb++a.extract 0 na++out.reverse
noncomputable def wR (a b:Array Keyed) (out:Array Keyed) (na nb g k k1:Nat):StateT SortSt Sem (ForInStep U7):=do
 let x<-elem' a (na - 1)
 if (na - 1 == 0)=true then pure (ForInStep.done (some (EG a b (out.push x) (na - 1) nb),na - 1,nb,out.push x,g,k,k1))
 else if (decide (k < 7)&&decide (k1 < 7))=true then pure (ForInStep.done (none,na - 1,nb,out.push x,g,k,k1))
 else pure (ForInStep.yield (none,na - 1,nb,out.push x,g,k,k1))
noncomputable def xR (a b:Array Keyed) (out:Array Keyed) (na nb g k bc:Nat):StateT SortSt Sem (ForInStep U7):=do
 let y<-elem' b (nb - 1)
 if (nb - 1 == 1)=true then pure (ForInStep.done (some (xJ a b (out.push y) na (nb - 1)),na,nb - 1,out.push y,g,k,bc))
 else do
  let x<-elem' a (na - 1)
  let r<-aG true x b 0 (nb - 1) (nb - 1 - 1)
  match r with
  |some at_=>
   if nb - 1 - at_ > 0 then
    if (at_ == 1)=true then pure (ForInStep.done (some (xJ a b (out.push y++(b.extract at_ (nb - 1)).reverse) na at_),na,at_,out.push y++(b.extract at_ (nb - 1)).reverse,g,k,nb - 1 - at_))
    else if (at_ == 0)=true then pure (ForInStep.done (some (EG a b (out.push y++(b.extract at_ (nb - 1)).reverse) na at_),na,at_,out.push y++(b.extract at_ (nb - 1)).reverse,g,k,nb - 1 - at_))
    else wR a b (out.push y++(b.extract at_ (nb - 1)).reverse) na at_ g k (nb - 1 - at_)
   else wR a b (out.push y) na (nb - 1) g k (nb - 1 - at_)
  |_=>pure (ForInStep.done (some (EG a b (out.push y) na (nb - 1)),na,nb - 1,out.push y,g,k,bc))
noncomputable def NP (a b:Array Keyed) (out:Array Keyed) (na nb g ac bc:Nat):StateT SortSt Sem (ForInStep U7):=do
 iK g
 let y<-elem' b (nb - 1)
 let r<-aG false y a 0 na (na - 1)
 match r with
 |some at_=>
  if na - at_ > 0 then
   if (at_ == 0)=true then pure (ForInStep.done (some (EG a b (out++(a.extract at_ na).reverse) at_ nb),at_,nb,out++(a.extract at_ na).reverse,g,na - at_,bc))
   else xR a b (out++(a.extract at_ na).reverse) at_ nb g (na - at_) bc
  else xR a b out na nb g (na - at_) bc
 |_=>pure (ForInStep.done (some (EG a b out na nb),na,nb,out,g,ac,bc))
noncomputable def qT (a b:Array Keyed) (mg:Nat) (s:U6):StateT SortSt Sem (ForInStep U6):=do
 let y<-elem' b (s.snd.snd.fst - 1)
 let x<-elem' a (s.snd.fst - 1)
 let r<-lt' y x
 match r with
 |some aw=>
  if aw=true then do
   let x<-elem' a (s.snd.fst - 1)
   if (s.snd.fst - 1 == 0)=true then pure (ForInStep.done (some (EG a b (s.snd.snd.snd.fst.push x) (s.snd.fst - 1) s.snd.snd.fst),s.snd.fst - 1,s.snd.snd.fst,s.snd.snd.snd.fst.push x,s.snd.snd.snd.snd.fst+1,0))
   else if s.snd.snd.snd.snd.fst+1>=mg then pure (ForInStep.done (none,s.snd.fst - 1,s.snd.snd.fst,s.snd.snd.snd.fst.push x,s.snd.snd.snd.snd.fst+1,0))
   else pure (ForInStep.yield (none,s.snd.fst - 1,s.snd.snd.fst,s.snd.snd.snd.fst.push x,s.snd.snd.snd.snd.fst+1,0))
  else do
   let y<-elem' b (s.snd.snd.fst - 1)
   if (s.snd.snd.fst - 1 == 1)=true then pure (ForInStep.done (some (xJ a b (s.snd.snd.snd.fst.push y) s.snd.fst (s.snd.snd.fst - 1)),s.snd.fst,s.snd.snd.fst - 1,s.snd.snd.snd.fst.push y,0,s.snd.snd.snd.snd.snd+1))
   else if s.snd.snd.snd.snd.snd+1>=mg then pure (ForInStep.done (none,s.snd.fst,s.snd.snd.fst - 1,s.snd.snd.snd.fst.push y,0,s.snd.snd.snd.snd.snd+1))
   else pure (ForInStep.yield (none,s.snd.fst,s.snd.snd.fst - 1,s.snd.snd.snd.fst.push y,0,s.snd.snd.snd.snd.snd+1))
 |_=>pure (ForInStep.done (some (EG a b s.snd.snd.snd.fst s.snd.fst s.snd.snd.fst),s.snd.fst,s.snd.snd.fst,s.snd.snd.snd.fst,s.snd.snd.snd.snd.fst,s.snd.snd.snd.snd.snd))
noncomputable def hi2 (a b:Array Keyed) (s:U7):StateT SortSt Sem (ForInStep U7):=
 if s.snd.snd.snd.snd.fst > 1 then NP a b s.snd.snd.snd.fst s.snd.fst s.snd.snd.fst (s.snd.snd.snd.snd.fst - 1) s.snd.snd.snd.snd.snd.fst s.snd.snd.snd.snd.snd.snd
 else NP a b s.snd.snd.snd.fst s.snd.fst s.snd.snd.fst s.snd.snd.snd.snd.fst s.snd.snd.snd.snd.snd.fst s.snd.snd.snd.snd.snd.snd
noncomputable def DZ (a b:Array Keyed) (s:U5):StateT SortSt Sem (ForInStep U5):=do
 let t<-forIn [0:a.size+b.size] ((none,s.snd.fst,s.snd.snd.fst,s.snd.snd.snd.fst,0,0):U6) λ_ t=>qT a b s.snd.snd.snd.snd t
 match t.fst with
 |some r=>pure (ForInStep.done (some r,t.snd.fst,t.snd.snd.fst,t.snd.snd.snd.fst,s.snd.snd.snd.snd))
 |none=>do
  liftM (rule "list.sort.gallop")
  let u<-forIn [0:a.size+b.size] ((none,t.snd.fst,t.snd.snd.fst,t.snd.snd.snd.fst,s.snd.snd.snd.snd+1,t.snd.snd.snd.snd.fst,t.snd.snd.snd.snd.snd):U7) λ_ u=>hi2 a b u
  match u.fst with
  |some r=>pure (ForInStep.done (some r,u.snd.fst,u.snd.snd.fst,u.snd.snd.snd.fst,u.snd.snd.snd.snd.fst))
  |none=>do
   iK (u.snd.snd.snd.snd.fst+1)
   pure (ForInStep.yield (none,u.snd.fst,u.snd.snd.fst,u.snd.snd.snd.fst,u.snd.snd.snd.snd.fst+1))
theorem Q8 (a b:Array Keyed):vH a b=(do
 rule "list.sort.merge-hi"
 let x<-elem' a (a.size - 1)
 if (a.size - 1 == 0)=true then pure (EG a b #[x] (a.size - 1) b.size)
 else if (b.size == 1)=true then pure (xJ a b #[x] (a.size - 1) b.size)
 else do
  let st<-get
  let t<-forIn [0:a.size+b.size] ((none,a.size - 1,b.size, #[x],gallopOf st):U5) λ_ t=>DZ a b t
  match t.fst with
  |some r=>pure r
  |none=>unsupported "internal:list.sort.merge-bound"):=by kernel_rfl
structure MH (rk:Keyed->Int) (la lb rl:List Keyed) (na nb:Nat):Prop where
 pm:(la.take na++lb.take nb++rl).Perm (la++lb)
 so:Up rk rl
 oa:∀x∈la.take na,∀y∈rl,rk x<=rk y
 ob:∀x∈lb.take nb,∀y∈rl,rk x<=rk y
theorem PK {α:Type} {l:List α} {i:Nat} {x:α} (h:l[i]?=some x):l.take (i+1)=l.take i++[x]:=by
 rw[pB,h];rfl
theorem GL {rk:Keyed->Int} {l:List Keyed} {i:Nat} {x:Keyed} (hu:Up rk l) (h:l[i]?=some x):∀y∈l.take (i+1),rk y<=rk x:=λy hy=>by
 have hu2:Up rk (l.take (i+1)):=hu.sublist (AC _ l)
 rw[PK h] at hu2 hy
 rcases GA.mp hy with hy|hy
 ·exact (MA.mp hu2).2.2 y hy x (kA.mpr rfl)
 ·rw[kA.mp hy];exact NB _
section
variable {rk:Keyed->Int} {la lb rl:List Keyed} {na nb:Nat} {x y:Keyed}
theorem MH.pushA (h:MH rk la lb rl (na+1) nb) (ha:Up rk la) (hx:la[na]?=some x) (hy:∀y∈lb.take nb,rk y<=rk x):MH rk la lb (x::rl) na nb:=by
 have hd:=PK hx
 have hxa:=GL ha hx
 have mem:∀z,z∈la.take na->z∈la.take (na+1):=λz hz=>by rw[hd];exact wB _ hz
 have memx:x∈la.take (na+1):=by rw[hd];exact IA _ (kA.mpr rfl)
 refine⟨?_,xB.mpr ⟨λz hz=>h.oa x memx z hz,h.so⟩,?_,?_⟩
 ·refine List.Perm.trans ?_ h.pm
  rw[hd,KA,KA,KA]
  refine JC _ ?_
  rw[<-KA]
  have:=YA (a:=x) (l₁:=lb.take nb) (l₂:=rl)
  simpa[KA] using this
 ·intro z hz w hw
  rcases xA.mp hw with rfl|hw
  ·exact hxa z (mem z hz)
  ·exact h.oa z (mem z hz) w hw
 ·intro z hz w hw
  rcases xA.mp hw with rfl|hw
  ·exact hy z hz
  ·exact h.ob z hz w hw
theorem MH.pushB (h:MH rk la lb rl na (nb+1)) (hb:Up rk lb) (hy:lb[nb]?=some y) (hx:∀x∈la.take na,rk x<=rk y):MH rk la lb (y::rl) na nb:=by
 have hd:=PK hy
 have hyb:=GL hb hy
 have mem:∀z,z∈lb.take nb->z∈lb.take (nb+1):=λz hz=>by rw[hd];exact wB _ hz
 have memy:y∈lb.take (nb+1):=by rw[hd];exact IA _ (kA.mpr rfl)
 refine⟨?_,xB.mpr ⟨λz hz=>h.ob y memy z hz,h.so⟩,?_,?_⟩
 ·have:=h.pm
  rw[hd] at this
  simpa[KA] using this
 ·intro z hz w hw
  rcases xA.mp hw with rfl|hw
  ·exact hx z hz
  ·exact h.oa z hz w hw
 ·intro z hz w hw
  rcases xA.mp hw with rfl|hw
  ·exact hyb z (mem z hz)
  ·exact h.ob z (mem z hz) w hw
theorem MH.blkA (ha:Up rk la) {na:Nat}:∀(k:Nat) {rl:List Keyed},MH rk la lb rl (na+k) nb->na+k<=la.length->(∀i,i < k->∀x,la[na+i]?=some x->∀y∈lb.take nb,rk y<=rk x)->MH rk la lb ((la.drop na).take k++rl) na nb
 |0,rl,h,_,_=>by rw[mC,gD];exact h
 |k+1,rl,h,hk,hy=>by
  obtain⟨x,hx⟩:∃x,la[na+k]?=some x:=⟨_,bA (by omega)⟩
  have h2:=MH.pushA (na:=na+k) h ha hx (hy k (by omega) x hx)
  have ih:=MH.blkA ha k h2 (by omega) λi hi=>hy i (by omega)
  rw[pR hx,KA]
  exact ih
theorem MH.blkB (hb:Up rk lb) {nb:Nat}:∀(k:Nat) {rl:List Keyed},MH rk la lb rl na (nb+k)->nb+k<=lb.length->(∀i,i < k->∀y,lb[nb+i]?=some y->∀x∈la.take na,rk x<=rk y)->MH rk la lb ((lb.drop nb).take k++rl) na nb
 |0,rl,h,_,_=>by rw[mC,gD];exact h
 |k+1,rl,h,hk,hx=>by
  obtain⟨y,hy⟩:∃y,lb[nb+k]?=some y:=⟨_,bA (by omega)⟩
  have h2:=MH.pushB (nb:=nb+k) h hb hy (hx k (by omega) y hy)
  have ih:=MH.blkB hb k h2 (by omega) λi hi=>hx i (by omega)
  rw[pR hy,KA]
  exact ih
theorem yR {a:Array Keyed} {i:Nat}:(a.extract 0 i).toList=a.toList.take i:=by
 rw[DD]
 show ((a.toList.drop 0).take (i - 0))=_
 rw[ND,Nat.sub_zero]
theorem zR {out:Array Keyed} {x:Keyed}:(out.push x).toList.reverse=x::out.toList.reverse:=by simp
theorem EZ {out a:Array Keyed} {i j k:Nat} (h:j=i+k):(out++(a.extract i j).reverse).toList.reverse=(a.toList.drop i).take k++out.toList.reverse:=by
 subst h
 rw[oB,List.reverse_append,ED,List.reverse_reverse,qR]
theorem MH.done {a b out:Array Keyed} (h:MH rk a.toList b.toList out.toList.reverse na nb) (ha:Up rk a.toList) (hb:Up rk b.toList) (hd:na=0\/nb=0):RG rk a.toList b.toList (EG a b out na nb):=by
 unfold RG EG
 rw[oB,oB,yR,yR,ED]
 refine⟨h.pm,?_⟩
 have sa:Up rk (a.toList.take na):=ha.sublist (AC _ _)
 have sb:Up rk (b.toList.take nb):=hb.sublist (AC _ _)
 refine MA.mpr ⟨MA.mpr ⟨sa,sb,?_⟩,h.so,λx hx y hy=>?_⟩
 ·intro x hx y hy
  rcases hd with rfl|rfl
  ·rw[mC] at hx;cases hx
  ·rw[mC] at hy;cases hy
 ·rcases GA.mp hx with hx|hx
  ·exact h.oa x hx y hy
  ·exact h.ob x hx y hy
theorem MH.first {a b out:Array Keyed} (h:MH rk a.toList b.toList out.toList.reverse na nb) (ha:Up rk a.toList) (hb:Up rk b.toList) (hl:∀x∈b.toList.take nb,∀y∈a.toList,rk x<=rk y):RG rk a.toList b.toList (xJ a b out na nb):=by
 unfold RG xJ
 rw[oB,oB,yR,yR,ED]
 have sa:Up rk (a.toList.take na):=ha.sublist (AC _ _)
 have sb:Up rk (b.toList.take nb):=hb.sublist (AC _ _)
 constructor
 ·exact List.Perm.trans (List.Perm.append_right _ List.perm_append_comm) h.pm
 ·refine MA.mpr ⟨MA.mpr ⟨sb,sa,λx hx y hy=>hl x hx y (List.mem_of_mem_take hy)⟩,h.so,λx hx y hy=>?_⟩
  rcases GA.mp hx with hx|hx
  ·exact h.ob x hx y hy
  ·exact h.oa x hx y hy
end
section
variable {M:Model} {A:Around} {E:Value->Shared->Prop} {s:Shared} {kd:SortKind} {Ok:Keyed->Prop} {rk:Keyed->Int} {a b:Array Keyed}
noncomputable def Hd (rk:Keyed->Int) (a b:Array Keyed) (p:Nat) (ret:Option (Array Keyed)) (na nb:Nat) (out:Array Keyed):Prop:=match ret with
 |some r=>RG rk a.toList b.toList r
 |none=>MH rk a.toList b.toList out.toList.reverse na nb/\1<=na/\2<=nb/\na<=a.size/\nb<=b.size/\p+na+nb<=a.size+b.size
noncomputable def AR (rk:Keyed->Int) (a b:Array Keyed) (p:Nat) (c:U7):Prop:=Hd rk a b p c.1 c.2.1 c.2.2.1 c.2.2.2.1
noncomputable def uO (rk:Keyed->Int) (a b:Array Keyed) (p:Nat) (st:SortSt) (r:ForInStep U7) (st':SortSt):Prop:=Sk st st'/\match r with
 |.done c=>AR rk a b p c
 |.yield c=>c.1=none/\AR rk a b p c
theorem BR (pr:Pr rk Ok a b) {nb:Nat} (h:nb=1):∀x∈b.toList.take nb,∀y∈a.toList,rk x<=rk y:=λx hx y hy=>by
 subst h
 obtain⟨z,h1,h2,_⟩:=at_ (a:=b) (i:=0) pr.nb
 rw[show (1:Nat)=0+1 from rfl,PK h2,mC,gD] at hx
 rw[kA.mp hx]
 exact CB (pr.fst z h1 y hy)
theorem HL (pr:Pr rk Ok a b) {out:Array Keyed} {na nb g k k1 p:Nat} {st:SortSt} (h:MH rk a.toList b.toList out.toList.reverse na nb) (hna:1<=na) (hnb:2<=nb) (ha:na<=a.size) (hb:nb<=b.size) (hx:∀x,a[na - 1]?=some x->∀y∈b.toList.take nb,rk y<=rk x) (hp:p+(na - 1)+nb<=a.size+b.size):
  wpS M A E s (wR a b out na nb g k k1) (uO rk a b p st) st:=by
 unfold wR
 obtain⟨x,e1,e2,_⟩:=at_ (a:=a) (i:=na - 1) (by omega)
 refine rA (tH e1 ?_)
 have h2:MH rk a.toList b.toList (out.push x).toList.reverse (na - 1) nb:=by
  rw[zR]
  rw[show na=(na - 1)+1 by omega] at h
  exact h.pushA pr.ua e2 (hx x e1)
 by_cases c:na - 1=0
 ·rw[iA (by simpa using c)]
  exact yA ⟨Sk.refl _,h2.done pr.ua pr.ub (.inl c)⟩
 ·rw[fA (by simpa using c)]
  have hg:Hd rk a b p none (na - 1) nb (out.push x):=⟨h2,by omega,hnb,by omega,hb,by omega⟩
  split
  ·exact yA ⟨Sk.refl _,hg⟩
  ·exact yA ⟨Sk.refl _,rfl,hg⟩
theorem IL (od:Od kd Ok rk M A E s) (pr:Pr rk Ok a b) {out:Array Keyed} {na nb g k bc p:Nat} {st:SortSt} (hk:kindOf st=kd) (h:MH rk a.toList b.toList out.toList.reverse na nb) (hna:1<=na) (hnb:2<=nb) (ha:na<=a.size) (hb:nb<=b.size) (hy:∀y,b[nb - 1]?=some y->∀x∈a.toList.take na,rk x<=rk y) (hp:p+na+(nb - 1)<=a.size+b.size):
  wpS M A E s (xR a b out na nb g k bc) (uO rk a b p st) st:=by
 unfold xR
 obtain⟨y,f1,f2,f3⟩:=at_ (a:=b) (i:=nb - 1) (by omega)
 obtain⟨x,e1,e2,e3⟩:=at_ (a:=a) (i:=na - 1) (by omega)
 refine rA (tH f1 ?_)
 have h2:MH rk a.toList b.toList (out.push y).toList.reverse na (nb - 1):=by
  rw[zR]
  rw[show nb=(nb - 1)+1 by omega] at h
  exact h.pushB pr.ub f2 (hy y f1)
 by_cases c:nb - 1=1
 ·rw[iA (by simpa using c)]
  exact yA ⟨Sk.refl _,h2.first pr.ua pr.ub (BR pr c)⟩
 ·rw[fA (by simpa using c)]
  refine rA (tH e1 ?_)
  refine rA (rO od hk (pr.oa x e3) (λi hi=>?_) (tR pr.ub (by omega)) (by omega) λat' hat hlt hge=>?_)
  ·obtain⟨z,z1,_,z3⟩:=at_ (a:=b) (i:=0+i) (by omega)
   exact⟨z,z1,pr.ob z z3⟩
  dsimp only
  have hxd:∀w∈a.toList.take na,rk w<=rk x:=λw hw=>GL pr.ua e2 w (by rw[show na - 1+1=na by omega];exact hw)
  have h3:MH rk a.toList b.toList ((b.toList.drop at').take (nb - 1 - at')++(out.push y).toList.reverse) na at':=by
   refine MH.blkB pr.ub (nb - 1 - at') (by rw[show at'+(nb - 1 - at')=nb - 1 by omega];exact h2) (by rw[zA];omega) λi hi z hz w hw=>?_
   have:=hge (at'+i) (by omega) (by omega)
   unfold bB at this
   rw[iA rfl,oH (show b[0+(at'+i)]?=some z by rw[<-LA,UB];exact hz)] at this
   exact nB (hxd w hw) (FC.mp (QB this))
  have hnx:1<=at'->∀x',a[na - 1]?=some x'->∀w∈b.toList.take at',rk w<=rk x':=λhlt2 x' hx' w hw=>by
   rw[e1] at hx'
   cases hx'
   obtain⟨z,z1,z2,_⟩:=at_ (a:=b) (i:=at' - 1) (by omega)
   have:=hlt (at' - 1) (by omega)
   unfold bB at this
   rw[iA rfl,oH (show b[0+(at' - 1)]?=some z by rw[UB];exact z1)] at this
   exact nB (GL pr.ub z2 w (by rw[show at' - 1+1=at' by omega];exact hw)) (CB (KB this))
  by_cases ck:nb - 1 - at' > 0
  ·rw[iA ck]
   have h4:MH rk a.toList b.toList (out.push y++(b.extract at' (nb - 1)).reverse).toList.reverse na at':=by rw[EZ (k:=nb - 1 - at') (by omega)];exact h3
   by_cases c2:at'=1
   ·rw[iA (by simpa using c2)]
    exact yA ⟨Sk.refl _,h4.first pr.ua pr.ub (BR pr c2)⟩
   ·rw[fA (by simpa using c2)]
    by_cases c3:at'=0
    ·rw[iA (by simpa using c3)]
     exact yA ⟨Sk.refl _,h4.done pr.ua pr.ub (.inr c3)⟩
    ·rw[fA (by simpa using c3)]
     exact HL pr h4 hna (by omega) ha (by omega) (hnx (by omega)) (by omega)
  ·rw[fA ck]
   have:at'=nb - 1:=by omega
   subst this
   exact HL pr h2 hna (by omega) ha (by omega) (hnx (by omega)) (by omega)
theorem OP (od:Od kd Ok rk M A E s) (pr:Pr rk Ok a b) {out:Array Keyed} {na nb g ac bc p:Nat} {st:SortSt} (hk:kindOf st=kd) (h:MH rk a.toList b.toList out.toList.reverse na nb) (hna:1<=na) (hnb:2<=nb) (ha:na<=a.size) (hb:nb<=b.size) (hp:p+na+(nb - 1)<=a.size+b.size):
  wpS M A E s (NP a b out na nb g ac bc) (uO rk a b p st) st:=by
 unfold NP
 refine rA (sR λst1 sk=>?_)
 have hk1:kindOf st1=kd:=by rw[sk.2.1];exact hk
 have up:∀r st',uO rk a b p st1 r st'->uO rk a b p st r st':=λr st' q=>⟨sk.trans q.1,q.2⟩
 refine BB ?_ up
 obtain⟨y,f1,f2,f3⟩:=at_ (a:=b) (i:=nb - 1) (by omega)
 refine rA (tH f1 ?_)
 refine rA (rO od hk1 (pr.ob y f3) (λi hi=>?_) (tR pr.ua (by omega)) (by omega) λat' hat hlt hge=>?_)
 ·obtain⟨z,z1,_,z3⟩:=at_ (a:=a) (i:=0+i) (by omega)
  exact⟨z,z1,pr.oa z z3⟩
 dsimp only
 have hyd:∀w∈b.toList.take nb,rk w<=rk y:=λw hw=>GL pr.ub f2 w (by rw[show nb - 1+1=nb by omega];exact hw)
 have h3:MH rk a.toList b.toList ((a.toList.drop at').take (na - at')++out.toList.reverse) at' nb:=by
  refine MH.blkA pr.ua (na - at') (by rw[show at'+(na - at')=na by omega];exact h) (by rw[zA];omega) λi hi z hz w hw=>?_
  have:=hge (at'+i) (by omega) (by omega)
  unfold bB at this
  rw[fA oA,oH (show a[0+(at'+i)]?=some z by rw[<-LA,UB];exact hz)] at this
  have this:decide (rk y < rk z)=true:=by simpa using this
  exact nB (hyd w hw) (CB (KB this))
 have hnx:1<=at'->∀y',b[nb - 1]?=some y'->∀w∈a.toList.take at',rk w<=rk y':=λhlt2 y' hy' w hw=>by
  rw[f1] at hy'
  cases hy'
  obtain⟨z,z1,z2,_⟩:=at_ (a:=a) (i:=at' - 1) (by omega)
  have:=hlt (at' - 1) (by omega)
  unfold bB at this
  rw[fA oA,oH (show a[0+(at' - 1)]?=some z by rw[UB];exact z1)] at this
  have this:decide (rk y < rk z)=false:=by simpa using this
  exact nB (GL pr.ua z2 w (by rw[show at' - 1+1=at' by omega];exact hw)) (FC.mp (QB this))
 by_cases ck:na - at' > 0
 ·rw[iA ck]
  have h4:MH rk a.toList b.toList (out++(a.extract at' na).reverse).toList.reverse at' nb:=by rw[EZ (k:=na - at') (by omega)];exact h3
  by_cases c:at'=0
  ·rw[iA (by simpa using c)]
   exact yA ⟨Sk.refl _,h4.done pr.ua pr.ub (.inl c)⟩
  ·rw[fA (by simpa using c)]
   exact IL od pr hk1 h4 (by omega) hnb (by omega) hb (hnx (by omega)) (by omega)
 ·rw[fA ck]
  have:at'=na:=by omega
  subst this
  exact IL od pr hk1 h hna hnb ha hb (hnx (by omega)) (by omega)
theorem PP (od:Od kd Ok rk M A E s) (pr:Pr rk Ok a b) {out:Array Keyed} {na nb mg ac bc p:Nat} {st:SortSt} (hk:kindOf st=kd) (h:MH rk a.toList b.toList out.toList.reverse na nb) (hna:1<=na) (hnb:2<=nb) (ha:na<=a.size) (hb:nb<=b.size) (hp:p+na+nb<=a.size+b.size+1):
  wpS M A E s (qT a b mg (none,na,nb,out,ac,bc)) (λr st'=>st'=st/\match r with
   |.done c=>Hd rk a b p c.1 c.2.1 c.2.2.1 c.2.2.2.1
   |.yield c=>c.1=none/\Hd rk a b p c.1 c.2.1 c.2.2.1 c.2.2.2.1) st:=by
 unfold qT
 dsimp only
 obtain⟨y,f1,f2,f3⟩:=at_ (a:=b) (i:=nb - 1) (by omega)
 obtain⟨x,e1,e2,e3⟩:=at_ (a:=a) (i:=na - 1) (by omega)
 refine rA (tH f1 (rA (tH e1 (rA (od st y x _ hk (pr.ob y f3) (pr.oa x e3) ?_)))))
 dsimp only
 have hyd:∀w∈b.toList.take nb,rk w<=rk y:=λw hw=>GL pr.ub f2 w (by rw[show nb - 1+1=nb by omega];exact hw)
 have hxd:∀w∈a.toList.take na,rk w<=rk x:=λw hw=>GL pr.ua e2 w (by rw[show na - 1+1=na by omega];exact hw)
 by_cases hlt:rk y < rk x
 ·rw[AA hlt,iA rfl]
  refine rA (tH e1 ?_)
  have h2:MH rk a.toList b.toList (out.push x).toList.reverse (na - 1) nb:=by
   rw[zR]
   rw[show na=(na - 1)+1 by omega] at h
   exact h.pushA pr.ua e2 λw hw=>nB (hyd w hw) (CB hlt)
  by_cases c:na - 1=0
  ·rw[iA (by simpa using c)]
   exact yA ⟨rfl,h2.done pr.ua pr.ub (.inl c)⟩
  ·rw[fA (by simpa using c)]
   have hg:Hd rk a b p none (na - 1) nb (out.push x):=⟨h2,by omega,hnb,by omega,hb,by omega⟩
   split
   ·exact yA ⟨rfl,hg⟩
   ·exact yA ⟨rfl,rfl,hg⟩
 ·rw[vA hlt,fA oA]
  refine rA (tH f1 ?_)
  have h2:MH rk a.toList b.toList (out.push y).toList.reverse na (nb - 1):=by
   rw[zR]
   rw[show nb=(nb - 1)+1 by omega] at h
   exact h.pushB pr.ub f2 λw hw=>nB (hxd w hw) (FC.mp hlt)
  by_cases c:nb - 1=1
  ·rw[iA (by simpa using c)]
   exact yA ⟨rfl,h2.first pr.ua pr.ub (BR pr c)⟩
  ·rw[fA (by simpa using c)]
   have hg:Hd rk a b p none na (nb - 1) (out.push y):=⟨h2,hna,by omega,ha,by omega,by omega⟩
   split
   ·exact yA ⟨rfl,hg⟩
   ·exact yA ⟨rfl,rfl,hg⟩
theorem R8 (od:Od kd Ok rk M A E s) (pr:Pr rk Ok a b) {st:SortSt} {Q:Array Keyed->SortSt->Prop} (hk:kindOf st=kd) (q:∀r st',Sk st st'->RG rk a.toList b.toList r->Q r st'):wpS M A E s (vH a b) Q st:=by
 rw[Q8]
 refine rA (fE (jD ⟨rfl,?_⟩))
 have nb:=pr.nb
 have na:=pr.na
 obtain⟨x,f1,f2,f3⟩:=at_ (a:=a) (i:=a.size - 1) (by omega)
 refine rA (tH f1 ?_)
 have h1:MH rk a.toList b.toList (#[x]:Array Keyed).toList.reverse (a.size - 1) b.size:=by
  have e0:MH rk a.toList b.toList [] (a.size - 1+1) b.size:=by
   rw[show a.size - 1+1=a.toList.length by rw[zA];omega,show b.size=b.toList.length from (zA).symm]
   refine⟨?_,List.Pairwise.nil,λx _ w hw=>(lB hw).elim,λx _ w hw=>(lB hw).elim⟩
   rw[mB,mB,wC]
  exact e0.pushA pr.ua f2 λw hw=>CB (pr.lst x f1 w (List.mem_of_mem_take hw))
 by_cases c1:a.size - 1=0
 ·rw[iA (by simpa using c1)]
  exact yA (q _ _ (Sk.refl _) (h1.done pr.ua pr.ub (.inl c1)))
 ·rw[fA (by simpa using c1)]
  by_cases c2:b.size=1
  ·rw[iA (by simpa using c2)]
   exact yA (q _ _ (Sk.refl _) (h1.first pr.ua pr.ub (BR pr c2)))
  ·rw[fA (by simpa using c2)]
   refine rA (KD ?_)
   refine rA (BB (qB (I:=λx c st'=>Sk st st'/\c.1=none/\Hd rk a b (x+1) c.1 c.2.1 c.2.2.1 c.2.2.2.1) (Q:=λc st'=>Sk st st'/\∃r,c.1=some r/\RG rk a.toList b.toList r) ?step ?fin ?init) ?post)
   case init=>exact⟨Sk.refl _,rfl,h1,(show 1<=a.size - 1 by omega),(show 2<=b.size by omega),(show a.size - 1<=a.size by omega),pA _,(show 0+1+(a.size - 1)+b.size<=a.size+b.size by omega)⟩
   case fin=>
    rintro⟨ret,na,nb,out,g⟩ st' ⟨_,e,hg⟩
    have e:ret=none:=e
    subst e
    obtain⟨_,g1,g2,_,_,g3⟩:=hg
    have g1:1<=na:=g1
    have g3:max 0 (a.size+b.size)+1+na+nb<=a.size+b.size:=g3
    omega
   case post=>
    rintro⟨ret,na,nb,out,g⟩ st' ⟨sk,r,e,hf⟩
    have e:ret=some r:=e
    subst e
    exact yA (q r st' sk hf)
   case step=>
    rintro x ⟨ret,na,nb,out,g⟩ st1 _ hx ⟨sk1,e,hg⟩
    have e:ret=none:=e
    subst e
    obtain⟨g0,g1,g2,g4,g5,g3⟩:=hg
    have g0:MH rk a.toList b.toList out.toList.reverse na nb:=g0
    have g1:1<=na:=g1
    have g2:2<=nb:=g2
    have g4:na<=a.size:=g4
    have g5:nb<=b.size:=g5
    have g3:x+1+na+nb<=a.size+b.size:=g3
    have hk1:kindOf st1=kd:=by rw[sk1.2.1];exact hk
    unfold DZ
    dsimp only
    refine rA (BB (qB (I:=λz c st'=>st'=st1/\c.1=none/\Hd rk a b (x+1+min z 1) c.1 c.2.1 c.2.2.1 c.2.2.2.1) (Q:=λc st'=>st'=st1/\Hd rk a b (x+2) c.1 c.2.1 c.2.2.1 c.2.2.2.1) ?s1 ?f1 ?i1) ?p1)
    case i1=>exact⟨rfl,rfl,g0,g1,g2,g4,g5,(show x+1+min 0 1+na+nb<=a.size+b.size by omega)⟩
    case f1=>
     rintro c st' ⟨e1,_,hg⟩
     refine⟨e1,?_⟩
     rwa[show x+1+min (max 0 (a.size+b.size)) 1=x+2 by omega] at hg
    case s1=>
     rintro z ⟨ret,na,nb,out,ac,bc⟩ st' _ hz ⟨rfl,e,hg⟩
     have e:ret=none:=e
     subst e
     obtain⟨g0,g1,g2,g4,g5,g3⟩:=hg
     have g3:x+1+min z 1+na+nb<=a.size+b.size:=g3
     refine BB (PP (p:=x+2) od pr hk1 g0 g1 g2 g4 g5 (by omega)) λr st2 q2=>?_
     obtain⟨rfl,q2⟩:=q2
     cases r with
     |done c=>exact⟨rfl,q2⟩
     |yield c=>
      refine⟨rfl,q2.1,?_⟩
      rw[show x+1+min (z+1) 1=x+2 by omega]
      exact q2.2
    case p1=>
     rintro⟨ret,na,nb,out,ac,bc⟩ st' ⟨rfl,hg⟩
     cases ret with
     |some r=>exact yA ⟨sk1,r,rfl,hg⟩
     |none=>
      obtain⟨g0,g1,g2,g4,g5,g3⟩:=hg
      have g3:x+2+na+nb<=a.size+b.size:=g3
      dsimp only
      refine rA (fE (jD ⟨rfl,?_⟩))
      refine rA (BB (qB (I:=λz c st2=>Sk st2 st2/\Sk st' st2/\c.1=none/\AR rk a b (x+2) c) (Q:=λc st2=>Sk st' st2/\AR rk a b (x+2) c) ?s2 ?f2 ?i2) ?p2)
      case i2=>exact⟨Sk.refl _,Sk.refl _,rfl,g0,g1,g2,g4,g5,g3⟩
      case f2=>
       rintro c st2 ⟨_,e1,_,hg⟩
       exact⟨e1,hg⟩
      case s2=>
       rintro z ⟨ret,na,nb,out,gg,ac,bc⟩ st2 _ hz ⟨_,sk2,e,hg⟩
       have e:ret=none:=e
       subst e
       obtain⟨g0,g1,g2,g4,g5,g3⟩:=hg
       have g3:x+2+na+nb<=a.size+b.size:=g3
       have g2:2<=nb:=g2
       have hk2:kindOf st2=kd:=by rw[sk2.2.1];exact hk1
       have go:∀gg',wpS M A E s (NP a b out na nb gg' ac bc) (uO rk a b (x+2) st2) st2:=λgg'=>OP od pr hk2 g0 g1 g2 g4 g5 (by omega)
       unfold hi2
       dsimp only
       split
       ·refine BB (go _) λr st3 q3=>?_
        obtain⟨q4,q5⟩:=q3
        cases r with
        |done c=>exact⟨sk2.trans q4,q5⟩
        |yield c=>exact⟨Sk.refl _,sk2.trans q4,q5.1,q5.2⟩
       ·refine BB (go _) λr st3 q3=>?_
        obtain⟨q4,q5⟩:=q3
        cases r with
        |done c=>exact⟨sk2.trans q4,q5⟩
        |yield c=>exact⟨Sk.refl _,sk2.trans q4,q5.1,q5.2⟩
      case p2=>
       rintro⟨ret,na,nb,out,gg,ac,bc⟩ st2 ⟨sk2,hg⟩
       cases ret with
       |some r=>exact yA ⟨sk1.trans sk2,r,rfl,hg⟩
       |none=>
        obtain⟨g0,g1,g2,g4,g5,g3⟩:=hg
        dsimp only
        refine rA (sR λst3 sk3=>yA ⟨sk1.trans (sk2.trans sk3),rfl,g0,g1,g2,g4,g5,?_⟩)
        exact g3
end
noncomputable def gN (at_:Nat) (l:List Keyed) (xs:Array Keyed):Array Keyed:=l.zipIdx.foldl (λa (p,j)=>a.setIfInBounds (at_+j) p) xs
noncomputable def AI (at_:Nat) (merged:Array Keyed):StateT SortSt Sem Bool:=do
 modify λs=>SortSt.mk' (kindOf s) (gN at_ merged.toList (arrOf s)) (pendingOf s) (gallopOf s) (failedOf s)
 let st<-get
 pure (failedOf st).isNone
noncomputable def FZ (xs:Array Keyed) (sa na sb nb:Nat):StateT SortSt Sem Bool:=
 if (nb == 0)=true then pure true
 else if na<=nb then do
  let m<-uH (xs.extract sa sb) (xs.extract sb (sb+nb))
  AI sa m
 else do
  let m<-vH (xs.extract sa sb) (xs.extract sb (sb+nb))
  AI sa m
noncomputable def GZ (xs:Array Keyed) (sa na sb nb:Nat):StateT SortSt Sem Bool:=do
 let y<-elem' xs sb
 let r<-aG false y xs sa na 0
 match r with
 |some k=>
  if (na - k == 0)=true then pure true
  else do
   let x<-elem' xs (sa+k+(na - k) - 1)
   let r<-aG true x xs sb nb (nb - 1)
   match r with
   |some nb'=>FZ xs (sa+k) (na - k) sb nb'
   |_=>pure false
 |_=>pure false
noncomputable def HZ (i:Nat) (s:SortSt) (sa na pw sb nb:Nat):StateT SortSt Sem Bool:=do
 set (setPending s (((pendingOf s).setIfInBounds i (sa,na+nb,pw)).eraseIdxIfInBounds (i+1)))
 GZ (arrOf s) sa na sb nb
theorem S8 (i:Nat):mergeAt' i=(do
 let s<-get
 match (pendingOf s)[i]?,(pendingOf s)[i+1]? with
 |some (sa,na,pw),some (sb,nb,_)=>HZ i s sa na pw sb nb
 |_,_=>unsupported "internal:list.sort.pending"):=by kernel_rfl
noncomputable abbrev sl (xs:Array Keyed) (i n:Nat):List Keyed:=(xs.toList.drop i).take n
theorem DR {xs:Array Keyed} {i n j:Nat} (hj:j < n):(sl xs i n)[j]?=xs[i+j]?:=by
 rw[List.getElem?_take_of_lt hj,List.getElem?_drop,LA]
theorem jK {xs:Array Keyed} {i n:Nat} (h:i+n<=xs.size):(sl xs i n).length=n:=by
 rw[XA,List.length_drop,zA];omega
theorem ER {rk:Keyed->Int} {xs:Array Keyed} {i n j:Nat} (hj:j < (sl xs i n).length):Kr rk xs (i+j)=rk (sl xs i n)[j]:=by
 have h1:(sl xs i n)[j]?=some (sl xs i n)[j]:=bA hj
 rw[DR (by rw[XA] at hj;omega)] at h1
 exact oH h1
theorem IZ {rk:Keyed->Int} {xs:Array Keyed} {i n:Nat} (h:QG rk xs i n) (hn:i+n<=xs.size):Up rk (sl xs i n):=by
 refine cB.mpr λj k h1 h2 hjk=>?_
 rw[<-ER (rk:=rk) h1,<-ER (rk:=rk) h2]
 exact h j k (by omega) (by rw[jK hn] at h2;exact h2)
theorem JL {rk:Keyed->Int} {xs:Array Keyed} {i n:Nat} (h:Up rk (sl xs i n)) (hn:i+n<=xs.size):QG rk xs i n:=λj k hjk hk=>by
 have h1:j < (sl xs i n).length:=by rw[jK hn];omega
 have h2:k < (sl xs i n).length:=by rw[jK hn];omega
 rw[ER h1,ER h2]
 by_cases c:j=k
 ·subst c;exact NB _
 ·exact cB.mp h j k h1 h2 (by omega)
theorem iN {xs:Array Keyed} {i n:Nat} {z:Keyed} (h:z∈sl xs i n):∃j,j < n/\xs[i+j]?=some z:=by
 obtain⟨j,hj,e⟩:=List.getElem_of_mem h
 have hj2:j < n:=by rw[XA] at hj;omega
 refine⟨j,hj2,?_⟩
 rw[<-DR hj2,bA hj,e]
theorem FR {xs:Array Keyed} {i n k:Nat} (hk:k<=n):sl xs i n=sl xs i k++sl xs (i+k) (n - k):=by
 show (xs.toList.drop i).take n=_
 conv=>lhs;rw[show n=k+(n - k) by omega,List.take_add]
 rw[List.drop_drop]
theorem JZ {xs:Array Keyed} {i j n:Nat} (h:j=i+n):(xs.extract i j).toList=sl xs i n:=by subst h;exact qR
theorem jN {rk:Keyed->Int} {A1 X Y B2 m:List Keyed} (h1:Up rk (A1++X)) (h2:Up rk (Y++B2)) (hm:m.Perm (X++Y)) (hu:Up rk m) (c1:∀x∈A1,∀y∈Y++B2,rk x<=rk y) (c2:∀x∈X,∀y∈B2,rk x<=rk y):Up rk (A1++(m++B2)):=by
 obtain⟨a1,_,a3⟩:=MA.mp h1
 obtain⟨_,b2,b3⟩:=MA.mp h2
 refine MA.mpr ⟨a1,MA.mpr ⟨hu,b2,λx hx y hy=>?_⟩,λx hx y hy=>?_⟩
 ·rcases GA.mp (hm.mem_iff.mp hx) with h|h
  ·exact c2 x h y hy
  ·exact b3 x h y hy
 ·rcases GA.mp hy with h|h
  ·rcases GA.mp (hm.mem_iff.mp h) with h|h
   ·exact a3 x hx y h
   ·exact c1 x hx y (wB _ h)
  ·exact c1 x hx y (IA _ h)
theorem KZ (i:Nat):∀(l:List Keyed) (j:Nat) (P M Z:List Keyed),P.length=i+j->M.length=l.length->((l.zipIdx j).foldl (λ(a:Array Keyed) (q:Keyed×Nat)=>a.setIfInBounds (i+q.2) q.1) (P++(M++Z)).toArray).toList=P++(l++Z)
 |[],j,P,M,Z,hP,hM=>by
  have:M=[]:=List.eq_nil_of_length_eq_zero hM
  subst this;rfl
 |x::l,j,P,[],Z,hP,hM=>by cases hM
 |x::l,j,P,m::M,Z,hP,hM=>by
  have hs:((P++(m::M++Z)).toArray.setIfInBounds (i+j) x)=((P++[x])++(M++Z)).toArray:=by
   rw[PD,<-hP,List.set_append_right _ _ (pA _),Nat.sub_self]
   simp
  have ih:=KZ i l (j+1) (P++[x]) M Z (by rw[nA,hP];rfl) (by simpa using hM)
  rw[List.zipIdx_cons,List.foldl_cons]
  show ((l.zipIdx (j+1)).foldl _ ((P++(m::M++Z)).toArray.setIfInBounds (i+j) x)).toList=_
  rw[hs,ih]
  simp
theorem T8 {i:Nat} {l P M Z:List Keyed} {xs:Array Keyed} (h:xs.toList=P++(M++Z)) (hP:P.length=i) (hM:M.length=l.length):(gN i l xs).toList=P++(l++Z):=by
 have:xs=(P++(M++Z)).toArray:=by rw[<-h]
 subst this
 exact KZ i l 0 P M Z (by rw[hP];rfl) hM
theorem kN {xs:Array Keyed} {i n:Nat} (h:i+n<=xs.size):xs.toList=xs.toList.take i++(sl xs i n++xs.toList.drop (i+n))/\(xs.toList.take i).length=i:=by
 constructor
 ·conv=>lhs;rw[<-zD i xs.toList,<-zD n (xs.toList.drop i),List.drop_drop]
 ·rw[XA,zA];omega
noncomputable def Ct:List (Nat×Nat×Nat)->Nat->Nat->Prop
 |[],s,e=>s=e
 |t::l,s,e=>t.1=s/\1<=t.2.1/\Ct l (s+t.2.1) e
theorem Ct.app:∀{l1 l2:List (Nat×Nat×Nat)} {s e:Nat},Ct (l1++l2) s e↔∃m,Ct l1 s m/\Ct l2 m e
 |[],l2,s,e=>⟨λh=>⟨s,rfl,h⟩,λ⟨m,h1,h2⟩=>by cases h1;exact h2⟩
 |t::l1,l2,s,e=>by
  constructor
  ·rintro⟨h1,h2,h3⟩
   obtain⟨m,h4,h5⟩:=Ct.app.mp h3
   exact⟨m,⟨h1,h2,h4⟩,h5⟩
  ·rintro⟨m,⟨h1,h2,h4⟩,h5⟩
   exact⟨h1,h2,Ct.app.mpr ⟨m,h4,h5⟩⟩
theorem Ct.len:∀{l:List (Nat×Nat×Nat)} {s e:Nat},Ct l s e->s+l.length<=e
 |[],s,e,h=>by cases h;exact pA _
 |t::l,s,e,⟨_,h2,h3⟩=>by have:=Ct.len h3;rw[WA];omega
theorem Ct.mem:∀{l:List (Nat×Nat×Nat)} {s e:Nat},Ct l s e->∀t∈l,s<=t.1/\t.1+t.2.1<=e
 |[],s,e,h,t,ht=>by cases ht
 |u::l,s,e,⟨h1,h2,h3⟩,t,ht=>by
  have h4:=Ct.len h3
  rcases xA.mp ht with rfl|ht
  ·omega
  ·have:=Ct.mem h3 t ht;omega
theorem U8 {pd:Array (Nat×Nat×Nat)} {l1 l2:List (Nat×Nat×Nat)} {t u v:Nat×Nat×Nat} (h:pd.toList=l1++(t::u::l2)):((pd.setIfInBounds l1.length v).eraseIdxIfInBounds (l1.length+1)).toList=l1++(v::l2):=by
 have:pd=(l1++(t::u::l2)).toArray:=by rw[<-h]
 subst this
 rw[PD,List.set_append_right _ _ (pA _),Nat.sub_self,List.set_cons_zero,List.eraseIdxIfInBounds_toArray,List.eraseIdx_append_of_length_le (by omega),show l1.length+1 - l1.length=1 by omega]
 rfl
section
variable {M:Model} {A:Around} {E:Value->Shared->Prop} {s:Shared} {a₀:Array Keyed} {kd:SortKind} {pd:Array (Nat×Nat×Nat)} {Ok:Keyed->Prop} {rk:Keyed->Int}
theorem QP {σ:Type} {t st:σ} {Q:PUnit->σ->Prop} (h:Q ⟨⟩ t):wpS M A E s (set t:StateT σ Sem PUnit) Q st:=by
 exact CD (f:=λ_=>t) h
theorem V8 {st:SortSt} {i:Nat} {P X Z:List Keyed} {r:Array Keyed} {Q:Bool->SortSt->Prop} (hB:Sb a₀ kd pd st) (hs:(arrOf st).toList=P++(X++Z)) (hP:P.length=i) (hr:r.toList.Perm X)
  (h:∀st',Sb a₀ kd pd st'->(arrOf st').toList=P++(r.toList++Z)->Q true st'):wpS M A E s (AI i r) Q st:=by
 unfold AI
 refine rA (CD (rA (KD ?_)))
 show wpS _ _ _ _ (pure (failedOf st).isNone) Q _
 rw[show (failedOf st).isNone=true by rw[hB.failed];rfl]
 have e:=T8 (l:=r.toList) hs hP hr.length_eq.symm
 refine yA (h _ ⟨?_,hB.kind,hB.failed,hB.pend⟩ e)
 refine Array.Perm.trans (VC.mpr ?_) hB.perm
 show (gN i r.toList (arrOf st)).toList.Perm (arrOf st).toList
 rw[e,hs]
 exact JC _ (List.Perm.append_right _ hr)
theorem lN {xs:Array Keyed} {P N Z:List Keyed} {i n:Nat} (h:xs.toList=P++(N++Z)) (hP:P.length=i) (hN:N.length=n):sl xs i n=N:=by
 show (xs.toList.drop i).take n=N
 rw[h,<-hP,List.drop_left,<-hN,List.take_left]
theorem W8 {xs ys:Array Keyed} {P N N' Z:List Keyed} {i n:Nat} (h:xs.toList=P++(N++Z)) (h':ys.toList=P++(N'++Z)) (hP:P.length=i) (hN:N.length=n) (hN':N'.length=n):YG xs ys i n:=λk hk=>by
 rw[<-LA,<-LA,h,h']
 by_cases c:k < P.length
 ·rw[bD c,bD c]
 ·rw[sB (by omega),sB (by omega),sB (by omega),sB (by omega),hN,hN']
theorem X8 {st:SortSt} {l1 l2:List (Nat×Nat×Nat)} {sa na pw sb nb q0:Nat} {Q:Bool->SortSt->Prop} (od:Od kd Ok rk M A E s) (h0:ZF Ok a₀) (hB:Sb a₀ kd pd st) (hp:pd.toList=l1++((sa,na,pw)::(sb,nb,q0)::l2)) (hsb:sb=sa+na) (hna:1<=na) (hnb:1<=nb) (hn:sb+nb<=a₀.size)
  (s1:QG rk (arrOf st) sa na) (s2:QG rk (arrOf st) sb nb)
  (h:∀st' pd',pd'.toList=l1++((sa,na+nb,pw)::l2)->Sb a₀ kd pd' st'->QG rk (arrOf st') sa (na+nb)->YG (arrOf st) (arrOf st') sa (na+nb)->Q true st'):wpS M A E s (mergeAt' l1.length) Q st:=by
 rw[S8]
 refine rA (KD ?_)
 have e1:(pendingOf st)[l1.length]?=some (sa,na,pw):=by
  rw[hB.pend,<-LA,hp,sB (pA _),Nat.sub_self];rfl
 have e2:(pendingOf st)[l1.length+1]?=some (sb,nb,q0):=by
  rw[hB.pend,<-LA,hp,sB (by omega),show l1.length+1 - l1.length=1 by omega];rfl
 rw[e1,e2]
 dsimp only
 unfold HZ
 have hsz:=hB.size
 obtain⟨xs,hxs⟩:∃xs,arrOf st=xs:=⟨_,rfl⟩
 obtain⟨pd',hpd⟩:∃pd',((pendingOf st).setIfInBounds l1.length (sa,na+nb,pw)).eraseIdxIfInBounds (l1.length+1)=pd':=⟨_,rfl⟩
 have hp':pd'.toList=l1++((sa,na+nb,pw)::l2):=by rw[<-hpd,hB.pend];exact U8 hp
 have hB1:Sb a₀ kd pd' (setPending st pd'):=⟨hB.perm,hB.kind,hB.failed,rfl⟩
 have ha1:arrOf (setPending st pd')=xs:=hxs
 rw[hpd]
 refine rA (QP ?_)
 generalize setPending st pd'=st1 at hB1 ha1 ⊢
 have hat:∀i,i < a₀.size->∃p,xs[i]?=some p/\Ok p:=λi hi=>by rw[<-hxs];exact hB.at h0 hi
 rw[hxs] at s1 s2 hsz ⊢
 have h:=λst' q1 q2 q3=>h st' pd' hp' q1 q2 q3
 rw[hxs] at h
 have stay:Up rk (sl xs sa na++sl xs (sa+na) nb)->Q true st1:=λhu=>by
  refine h st1 hB1 ?_ (by rw[ha1];exact YG.rfl')
  rw[ha1]
  refine JL ?_ (by omega)
  rw[FR (k:=na) (by omega),show na+nb - na=nb by omega]
  exact hu
 unfold GZ
 have uA:=IZ s1 (by omega)
 have uB:=IZ s2 (by omega)
 obtain⟨y,y1,yo⟩:=hat sb (by omega)
 refine rA (tH y1 ?_)
 refine rA (rO od hB1.kind yo (λi hi=>hat _ (by omega)) s1 (by omega) λk hk lt ge=>?_)
 dsimp only
 have A1le:∀z∈sl xs sa k,rk z<=rk y:=λz hz=>by
  obtain⟨j,hj,e⟩:=iN hz
  have:=lt j hj
  unfold bB at this
  rw[fA oA,oH e] at this
  have this:decide (rk y < rk z)=false:=by simpa using this
  exact FC.mp (QB this)
 have Xgt:∀z∈sl xs (sa+k) (na - k),rk y < rk z:=λz hz=>by
  obtain⟨j,hj,e⟩:=iN hz
  have:=ge (k+j) (by omega) (by omega)
  unfold bB at this
  rw[fA oA,oH (show xs[sa+(k+j)]?=some z by rw[<-Nat.add_assoc];exact e)] at this
  have this:decide (rk y < rk z)=true:=by simpa using this
  exact KB this
 have yle:∀w∈sl xs sb nb,rk y<=rk w:=λw hw=>by
  obtain⟨j,hj,e⟩:=iN hw
  have:=s2 0 j (by omega) hj
  rwa[oH (show xs[sb+0]?=some y from y1),oH e] at this
 by_cases c:na - k=0
 ·rw[iA (by simpa using c)]
  have:k=na:=by omega
  subst this
  refine yA (stay (MA.mpr ⟨uA,by rw[<-hsb];exact uB,λz hz w hw=>?_⟩))
  rw[<-hsb] at hw
  exact nB (A1le z hz) (yle w hw)
 ·rw[fA (by simpa using c)]
  obtain⟨x,x1,xo⟩:=hat (sa+k+(na - k) - 1) (by omega)
  refine rA (tH x1 ?_)
  refine rA (rO od hB1.kind xo (λi hi=>hat _ (by omega)) s2 (by omega) λnb' hnb' lt2 ge2=>?_)
  dsimp only
  have x2:xs[sa+(na - 1)]?=some x:=by rw[<-x1];congr 1;omega
  have lex:∀z∈sl xs sa na,rk z<=rk x:=λz hz=>by
   obtain⟨j,hj,e⟩:=iN hz
   have:=s1 j (na - 1) (by omega) (by omega)
   rwa[oH e,oH x2] at this
  have Ylt:∀z∈sl xs sb nb',rk z < rk x:=λz hz=>by
   obtain⟨j,hj,e⟩:=iN hz
   have:=lt2 j hj
   unfold bB at this
   rw[iA rfl,oH e] at this
   exact KB this
  have B2ge:∀z∈sl xs (sb+nb') (nb - nb'),rk x<=rk z:=λz hz=>by
   obtain⟨j,hj,e⟩:=iN hz
   have:=ge2 (nb'+j) (by omega) (by omega)
   unfold bB at this
   rw[iA rfl,oH (show xs[sb+(nb'+j)]?=some z by rw[<-Nat.add_assoc];exact e)] at this
   exact FC.mp (QB this)
  unfold FZ
  by_cases c2:nb'=0
  ·rw[iA (by simpa using c2)]
   subst c2
   refine yA (stay (MA.mpr ⟨uA,by rw[<-hsb];exact uB,λz hz w hw=>?_⟩))
   rw[<-hsb] at hw
   exact nB (lex z hz) (B2ge w (by simpa using hw))
  ·rw[fA (by simpa using c2)]
   have eA:sl xs sa na=sl xs sa k++sl xs (sa+k) (na - k):=FR hk
   have eB:sl xs sb nb=sl xs sb nb'++sl xs (sb+nb') (nb - nb'):=FR hnb'
   have hX:(xs.extract (sa+k) sb).toList=sl xs (sa+k) (na - k):=JZ (by omega)
   have hY:(xs.extract sb (sb+nb')).toList=sl xs sb nb':=JZ rfl
   have zX:(xs.extract (sa+k) sb).size=na - k:=by rw[<-zA,hX,jK (by omega)]
   have zY:(xs.extract sb (sb+nb')).size=nb':=by rw[<-zA,hY,jK (by omega)]
   have okm:∀i n,i+n<=a₀.size->∀z∈sl xs i n,Ok z:=λi n hin z hz=>by
    obtain⟨j,hj,e⟩:=iN hz
    obtain⟨p,p1,p2⟩:=hat (i+j) (by omega)
    rw[e] at p1
    cases p1
    exact p2
   have uA':=uA
   have uB':=uB
   rw[eA] at uA'
   rw[eB] at uB'
   have pr:Pr rk Ok (xs.extract (sa+k) sb) (xs.extract sb (sb+nb')):=by
    refine⟨by rw[hX];exact (MA.mp uA').2.1,by rw[hY];exact (MA.mp uB').1,by rw[hX];exact okm _ _ (by omega),by rw[hY];exact okm _ _ (by omega),λx' hx' w hw=>?_,λy' hy' w hw=>?_,by omega,by omega⟩
    ·rw[zX,<-LA,hX,DR (by omega),show sa+k+(na - k - 1)=sa+(na - 1) by omega,x2] at hx'
     cases hx'
     rw[hY] at hw
     exact Ylt w hw
    ·rw[<-LA,hY,DR (by omega)] at hy'
     have hy':xs[sb]?=some y':=hy'
     rw[y1] at hy'
     cases hy'
     rw[hX] at hw
     exact Xgt w hw
   have go:∀r st',Sk st1 st'->RG rk (xs.extract (sa+k) sb).toList (xs.extract sb (sb+nb')).toList r->wpS M A E s (AI (sa+k) r) Q st':=λr st' sk hf=>by
    rw[hX,hY] at hf
    obtain⟨f1,f2⟩:=hf
    have hB2:Sb a₀ kd pd' st':=⟨by rw[sk.1];exact hB1.perm,by rw[sk.2.1];exact hB1.kind,by rw[sk.2.2.1];exact hB1.failed,by rw[sk.2.2.2];exact hB1.pend⟩
    have cut1:=kN (xs:=xs) (i:=sa) (n:=na+nb) (by omega)
    have eM:sl xs sa (na+nb)=sl xs sa k++((sl xs (sa+k) (na - k)++sl xs sb nb')++sl xs (sb+nb') (nb - nb')):=by
     rw[FR (k:=na) (by omega),show na+nb - na=nb by omega,<-hsb,eA,eB]
     simp only[KA]
    have lr:r.toList.length=(na - k)+nb':=by rw[f1.length_eq,nA,jK (by omega),jK (by omega)]
    refine V8 hB2 (P:=xs.toList.take sa++sl xs sa k) (X:=sl xs (sa+k) (na - k)++sl xs sb nb') (Z:=sl xs (sb+nb') (nb - nb')++xs.toList.drop (sa+(na+nb))) ?_ ?_ f1 λst2 b1 b2=>?_
    ·rw[sk.1,ha1]
     refine cut1.1.trans ?_
     rw[eM]
     simp only[KA]
    ·rw[nA,cut1.2,jK (by omega)]
    ·have b3:(arrOf st2).toList=xs.toList.take sa++((sl xs sa k++(r.toList++sl xs (sb+nb') (nb - nb')))++xs.toList.drop (sa+(na+nb))):=by rw[b2];simp only[KA]
     have ln:(sl xs sa k++(r.toList++sl xs (sb+nb') (nb - nb'))).length=na+nb:=by
      rw[nA,nA,lr,jK (by omega),jK (by omega)];omega
     refine h st2 b1 (JL ?_ (by rw[b1.size];omega)) (W8 cut1.1 b3 cut1.2 (jK (by omega)) ln)
     rw[lN b3 cut1.2 ln]
     refine jN uA' uB' f1 f2 (λz hz w hw=>?_) λz hz w hw=>?_
     ·rw[<-eB] at hw
      exact nB (A1le z hz) (yle w hw)
     ·exact nB (lex z (by rw[eA];exact IA _ hz)) (B2ge w hw)
   by_cases c3:na - k<=nb'
   ·rw[iA c3]
    exact rA (P8 od pr hB1.kind go)
   ·rw[fA c3]
    exact rA (R8 od pr hB1.kind go)
end
noncomputable abbrev V2:=Option Unit×Nat
noncomputable def lI (lo n:Nat):StateT SortSt Sem (ForInStep V2):=do
 modify λs=>setPending s ((pendingOf s).push (lo,n,0))
 pure (ForInStep.yield (none,lo+n))
noncomputable def RP (pw:Nat):StateT SortSt Sem (ForInStep (Option Unit×Unit)):=do
 let st<-get
 match (if (pendingOf st).size > 1 then (pendingOf st)[(pendingOf st).size - 2]? else none) with
 |some (_,_,older)=>
  if older<=pw then pure (ForInStep.done (none,()))
  else do
   let b<-mergeAt' ((pendingOf st).size - 2)
   if (!b)=true then pure (ForInStep.done (some (),()))
   else pure (ForInStep.yield (none,()))
 |_=>pure (ForInStep.done (none,()))
noncomputable def yJ (pw:Nat) (t:Nat×Nat×Nat):Nat×Nat×Nat:=match t with
 |(st,len,_)=>(st,len,pw)
noncomputable def rT (size lo n pw:Nat):StateT SortSt Sem (ForInStep V2):=do
 let r<-forIn [0:size] ((none,()):Option Unit×Unit) λ_ _=>RP pw
 match r.fst with
 |some r=>pure (ForInStep.done (some r,lo))
 |none=>do
  modify λs=>setPending s ((pendingOf s).modify ((pendingOf s).size - 1) (yJ pw))
  lI lo n
noncomputable def GR (size lo n:Nat):StateT SortSt Sem (ForInStep V2):=do
 let st<-get
 match (pendingOf st).back? with
 |some (s1,n1,_)=>rT size lo n (power' size (2 * s1+n1) (2 * s1+n1+n1+n) size)
 |_=>lI lo n
noncomputable def LZ (size minrun:Nat) (c:V2):StateT SortSt Sem (ForInStep V2):=
 if c.snd>=size then pure (ForInStep.done (none,c.snd))
 else do
  let r<-countRun' c.snd (size - c.snd)
  match r with
  |some n=>
   if n < minrun then do
    liftM (rule "list.sort.binary-insertion")
    let b<-binarySort' c.snd (min (size - c.snd) minrun) n
    if (!b)=true then pure (ForInStep.done (some (),c.snd))
    else GR size c.snd (min (size - c.snd) minrun)
   else GR size c.snd n
  |_=>pure (ForInStep.done (some (),c.snd))
noncomputable def eI (p:Array (Nat×Nat×Nat)):Nat:=if Option.any (λx=>decide (x < p[p.size - 2+1]?.elim 0 λx=>x.snd.fst)) (if p.size - 2 > 0 then Option.map (λx=>x.snd.fst) p[p.size - 2 - 1]? else none)=true then p.size - 2 - 1 else p.size - 2
noncomputable def MZ:StateT SortSt Sem (ForInStep (Option Unit×Unit)):=do
 let st<-get
 if (pendingOf st).size<=1 then pure (ForInStep.done (none,()))
 else do
  let b<-mergeAt' (eI (pendingOf st))
  if (!b)=true then pure (ForInStep.done (some (),()))
  else pure (ForInStep.yield (none,()))
theorem Y8:sortRuns'=(do
 let st<-get
 let t<-forIn [0:(arrOf st).size] ((none,0):V2) λ_ c=>LZ (arrOf st).size (minRun' (arrOf st).size (arrOf st).size 0) c
 match t.fst with
 |some r=>pure r
 |none=>do
  let u<-forIn [0:(arrOf st).size] ((none,()):Option Unit×Unit) λ_ _=>MZ
  match u.fst with
  |some r=>pure r
  |none=>pure ()):=by kernel_rfl
section
variable {M:Model} {A:Around} {E:Value->Shared->Prop} {s:Shared} {a₀:Array Keyed} {kd:SortKind} {pd:Array (Nat×Nat×Nat)} {Ok:Keyed->Prop} {rk:Keyed->Int}
structure Pn (rk:Keyed->Int) (a₀:Array Keyed) (kd:SortKind) (pd:Array (Nat×Nat×Nat)) (lo:Nat) (st:SortSt):Prop where
 b:Sb a₀ kd pd st
 c:Ct pd.toList 0 lo
 g:∀t∈pd.toList,QG rk (arrOf st) t.1 t.2.1
 le:lo<=a₀.size
theorem Pn.out {lo lo' n':Nat} {st st':SortSt} (h:Pn rk a₀ kd pd lo st) (hb:Sb a₀ kd pd st') (o:YG (arrOf st) (arrOf st') lo' n') (hl:lo<=lo'):Pn rk a₀ kd pd lo st':=
 ⟨hb,h.c,λt ht=>(h.g t ht).out o (.inl (by have:=h.c.mem t ht;omega)),h.le⟩
theorem two_at {α:Type} {l:List α} {i:Nat} (h:i+1 < l.length):∃t u,l=l.take i++(t::u::l.drop (i+2))/\(l.take i).length=i:=by
 refine⟨l[i],l[i+1],?_,by rw[XA];omega⟩
 conv=>lhs;rw[<-zD i l,qC (by omega),qC h]
theorem KL {lo i:Nat} {st:SortSt} {Q:Bool->SortSt->Prop} (od:Od kd Ok rk M A E s) (h0:ZF Ok a₀) (h:Pn rk a₀ kd pd lo st) (hi:i+1 < pd.size)
  (q:∀st' pd',Pn rk a₀ kd pd' lo st'->pd'.size+1=pd.size->YG (arrOf st) (arrOf st') 0 lo->Q true st'):wpS M A E s (mergeAt' i) Q st:=by
 obtain⟨⟨sa,na,pw⟩,⟨sb,nb,q0⟩,e,hl⟩:=two_at (l:=pd.toList) (i:=i) (by rw[zA];exact hi)
 generalize pd.toList.take i=l1 at e hl
 generalize pd.toList.drop (i+2)=l2 at e
 subst hl
 have hc:=h.c
 rw[e] at hc
 obtain⟨m,c1,⟨d1,d2,d3,d4,d5⟩⟩:=Ct.app.mp hc
 have d1:sa=m:=d1
 have d2:1<=na:=d2
 have d3:sb=m+na:=d3
 have d4:1<=nb:=d4
 have d5:Ct l2 (m+na+nb) lo:=d5
 have d6:=d5.len
 have hle:=h.le
 have s1:QG rk (arrOf st) sa na:=h.g (sa,na,pw) (by rw[e];simp)
 have s2:QG rk (arrOf st) sb nb:=h.g (sb,nb,q0) (by rw[e];simp)
 refine X8 od h0 h.b e (by omega) d2 d4 (by omega) s1 s2 λst' pd' e' b' g' o'=>q st' pd' ⟨b',?_,λt ht=>?_,h.le⟩ ?_ (o'.wide (by omega) (by omega))
 ·rw[e']
  refine Ct.app.mpr ⟨m,c1,d1,(show 1<=na+nb by omega),?_⟩
  show Ct l2 (m+(na+nb)) lo
  rw[<-Nat.add_assoc]
  exact d5
 ·rw[e'] at ht
  rcases GA.mp ht with h1|h1
  ·have:=c1.mem t h1
   exact (h.g t (by rw[e];exact wB _ h1)).out o' (.inl (by omega))
  ·rcases xA.mp h1 with rfl|h1
   ·exact g'
   ·have:=d5.mem t h1
    exact (h.g t (by rw[e];exact IA _ (jA _ (jA _ h1)))).out o' (.inr (by omega))
 ·rw[<-zA,<-zA,e,e']
  simp only[nA,WA]
  omega
theorem Ct.mod (pw:Nat):∀{l:List (Nat×Nat×Nat)} (i:Nat) {s e:Nat},Ct l s e->Ct (l.modify i (yJ pw)) s e/\∀t∈l.modify i (yJ pw),∃u∈l,t.1=u.1/\t.2.1=u.2.1
 |[],i,s,e,h=>by
  rw[show ([]:List (Nat×Nat×Nat)).modify i (yJ pw)=[] by cases i<;>rfl]
  exact⟨h,λt ht=>by cases ht⟩
 |(a,b,c)::l,0,s,e,⟨h1,h2,h3⟩=>by
  rw[List.modify_zero_cons]
  refine⟨⟨h1,h2,h3⟩,λt ht=>?_⟩
  rcases xA.mp ht with rfl|ht
  ·exact⟨(a,b,c),wA .., rfl,rfl⟩
  ·exact⟨t,jA _ ht,rfl,rfl⟩
 |u::l,i+1,s,e,⟨h1,h2,h3⟩=>by
  obtain⟨g1,g2⟩:=Ct.mod pw i h3
  rw[List.modify_succ_cons]
  refine⟨⟨h1,h2,g1⟩,λt ht=>?_⟩
  rcases xA.mp ht with rfl|ht
  ·exact⟨t,wA .., rfl,rfl⟩
  ·obtain⟨v,v1,v2⟩:=g2 t ht
   exact⟨v,jA _ v1,v2⟩
noncomputable def HR (rk:Keyed->Int) (a₀:Array Keyed) (kd:SortKind) (lo:Nat) (r:ForInStep V2) (st':SortSt):Prop:=match r with
 |.done c=>False
 |.yield c=>∃lo' pd',c=(none,lo')/\lo < lo'/\Pn rk a₀ kd pd' lo' st'
theorem NZ {lo n:Nat} {st:SortSt} (h:Pn rk a₀ kd pd lo st) (hg:QG rk (arrOf st) lo n) (hn:1<=n) (hle:lo+n<=a₀.size):wpS M A E s (lI lo n) (HR rk a₀ kd lo) st:=by
 unfold lI
 refine rA (CD (yA ⟨lo+n,(pendingOf st).push (lo,n,0),rfl,by omega,⟨h.b.perm,h.b.kind,h.b.failed,rfl⟩,?_,λt ht=>?_,hle⟩))
 ·rw[h.b.pend,zC]
  exact Ct.app.mpr ⟨lo,h.c,rfl,hn,rfl⟩
 ·rw[h.b.pend,zC] at ht
  rcases GA.mp ht with h1|h1
  ·exact h.g t h1
  ·rw[kA.mp h1]
   exact hg
theorem UP {lo n pw:Nat} {st:SortSt} (od:Od kd Ok rk M A E s) (h0:ZF Ok a₀) (h:Pn rk a₀ kd pd lo st) (hg:QG rk (arrOf st) lo n) (hn:1<=n) (hle:lo+n<=a₀.size):wpS M A E s (rT a₀.size lo n pw) (HR rk a₀ kd lo) st:=by
 unfold rT
 refine rA (BB (qB (I:=λ_ c st'=>c=(none,())/\∃pd',Pn rk a₀ kd pd' lo st'/\QG rk (arrOf st') lo n) (Q:=λc st'=>c=(none,())/\∃pd',Pn rk a₀ kd pd' lo st'/\QG rk (arrOf st') lo n) ?step (λ_ _ q=>q) ⟨rfl,pd,h,hg⟩) ?post)
 case step=>
  rintro x c st1 _ _ ⟨rfl,pd1,h1,g1⟩
  unfold RP
  refine rA (KD ?_)
  rw[h1.b.pend]
  by_cases c1:pd1.size > 1
  ·rw[iA c1]
   obtain⟨⟨t1,t2,t3⟩,e⟩:∃t,pd1[pd1.size - 2]?=some t:=⟨_,GB (by omega)⟩
   rw[e]
   dsimp only
   by_cases c2:t3<=pw
   ·rw[iA c2]
    exact yA ⟨rfl,pd1,h1,g1⟩
   ·rw[fA c2]
    refine rA (KL od h0 h1 (by omega) λst2 pd2 h2 _ o2=>?_)
    rw[fA (by simp)]
    exact yA ⟨rfl,pd2,h2,g1.out o2 (.inr (by omega))⟩
  ·rw[fA c1]
   exact yA ⟨rfl,pd1,h1,g1⟩
 case post=>
  rintro c st1 ⟨rfl,pd1,h1,g1⟩
  dsimp only
  refine rA (CD ?_)
  obtain⟨m1,m2⟩:=Ct.mod pw (pd1.size - 1) h1.c
  refine NZ (pd:=pd1.modify (pd1.size - 1) (yJ pw)) ⟨⟨h1.b.perm,h1.b.kind,h1.b.failed,?_⟩,?_,λt ht=>?_,h1.le⟩ g1 hn hle
  ·show (pendingOf st1).modify ((pendingOf st1).size - 1) (yJ pw)=_
   rw[h1.b.pend]
  ·rw[Array.toList_modify];exact m1
  ·rw[Array.toList_modify] at ht
   obtain⟨u,u1,u2,u3⟩:=m2 t ht
   rw[u2,u3]
   exact h1.g u u1
theorem LL {lo n:Nat} {st:SortSt} (od:Od kd Ok rk M A E s) (h0:ZF Ok a₀) (h:Pn rk a₀ kd pd lo st) (hg:QG rk (arrOf st) lo n) (hn:1<=n) (hle:lo+n<=a₀.size):wpS M A E s (GR a₀.size lo n) (HR rk a₀ kd lo) st:=by
 unfold GR
 refine rA (KD ?_)
 rw[h.b.pend]
 cases e:pd.back? with
 |none=>exact NZ h hg hn hle
 |some t=>exact UP od h0 h hg hn hle
theorem VP {p:Array (Nat×Nat×Nat)} (h:1 < p.size):eI p+1 < p.size:=by
 unfold eI
 repeat' split
 all_goals omega
theorem Z8 {st:SortSt} {Q:Unit->SortSt->Prop} (od:Od kd Ok rk M A E s) (h0:ZF Ok a₀) (hB:Sb a₀ kd #[] st) (h2:1<=a₀.size)
  (h:∀st',(arrOf st').Perm a₀->failedOf st'=none->QG rk (arrOf st') 0 a₀.size->Q () st'):wpS M A E s sortRuns' Q st:=by
 rw[Y8]
 refine rA (KD ?_)
 rw[hB.size]
 refine rA (BB (qB (I:=λx c st'=>∃lo pd,c=(none,lo)/\x<=lo/\Pn rk a₀ kd pd lo st') (Q:=λc st'=>∃pd,c=(none,a₀.size)/\Pn rk a₀ kd pd a₀.size st') ?step ?fin ?init) ?post)
 case init=>exact⟨0, #[],rfl,pA _,hB,rfl,λt ht=>by simp at ht,fC _⟩
 case fin=>
  rintro c st' ⟨lo,pd,rfl,hx,hp⟩
  have:=hp.le
  have e:lo=a₀.size:=by omega
  subst e
  exact⟨pd,rfl,hp⟩
 case step=>
  rintro x c st1 _ hx ⟨lo,pd,rfl,hx2,hp⟩
  have hle:=hp.le
  unfold LZ
  dsimp only
  by_cases c1:lo>=a₀.size
  ·rw[iA c1]
   have e:lo=a₀.size:=by omega
   subst e
   exact yA ⟨pd,rfl,hp⟩
  ·rw[fA c1]
   refine rA (K8 od h0 (by omega) (by omega) hp.b λm st2 b2 m1 m2 g2 o2=>?_)
   dsimp only
   have hp2:=hp.out b2 o2 (pA _)
   have nx:∀r st',HR rk a₀ kd lo r st'->(match r with
    |.done c=>∃pd,c=((none,a₀.size):V2)/\Pn rk a₀ kd pd a₀.size st'
    |.yield c=>∃lo pd,c=((none,lo):V2)/\x+1<=lo/\Pn rk a₀ kd pd lo st'):=λr st' hr=>by
    cases r with
    |done c=>exact hr.elim
    |yield c=>
     obtain⟨lo',pd',e1,e2,e3⟩:=hr
     exact⟨lo',pd',e1,by omega,e3⟩
   by_cases c2:m < minRun' a₀.size a₀.size 0
   ·rw[iA c2]
    refine rA (fE (jD ⟨rfl,?_⟩))
    refine rA (y8 od h0 (by omega) (by omega) b2 g2 λst3 b3 g3 o3=>?_)
    rw[fA (by simp)]
    refine BB (LL od h0 (hp2.out b3 o3 (pA _)) g3 (by omega) (by omega)) λr st' hr=>?_
    cases r with
    |done c=>exact hr.elim
    |yield c=>exact nx (.yield c) st' hr
   ·rw[fA c2]
    refine BB (LL od h0 hp2 g2 m1 (by omega)) λr st' hr=>?_
    cases r with
    |done c=>exact hr.elim
    |yield c=>exact nx (.yield c) st' hr
 case post=>
  rintro c st1 ⟨pd,rfl,hp⟩
  dsimp only
  refine rA (BB (qB (I:=λx c st'=>c=(none,())/\∃pd,Pn rk a₀ kd pd a₀.size st'/\pd.size<=max 1 (a₀.size - x)) (Q:=λc st'=>c=(none,())/\∃pd,Pn rk a₀ kd pd a₀.size st'/\pd.size<=1) ?s2 ?f2 ?i2) ?p2)
  case i2=>
   have:=hp.c.len
   rw[zA] at this
   exact⟨rfl,pd,hp,by omega⟩
  case f2=>
   rintro c st' ⟨e,pd',h1,h2⟩
   exact⟨e,pd',h1,by omega⟩
  case s2=>
   rintro x c st2 _ hx ⟨rfl,pd2,hp2,hz⟩
   unfold MZ
   refine rA (KD ?_)
   rw[hp2.b.pend]
   by_cases c1:pd2.size<=1
   ·rw[iA c1]
    exact yA ⟨rfl,pd2,hp2,c1⟩
   ·rw[fA c1]
    refine rA (KL od h0 hp2 (VP (by omega)) λst3 pd3 h3 z3 _=>?_)
    rw[fA (by simp)]
    exact yA ⟨rfl,pd3,h3,by omega⟩
  case p2=>
   rintro c st2 ⟨rfl,pd2,hp2,hz⟩
   dsimp only
   refine yA (h st2 hp2.b.perm hp2.b.failed ?_)
   have hc:=hp2.c
   have hg:=hp2.g
   rw[<-zA] at hz
   generalize pd2.toList=l at hc hg hz
   match l,hc,hg,hz with
   |[],hc,_,_=>
    have hc:0=a₀.size:=hc
    omega
   |[(a,b,c)],hc,hg,_=>
    obtain⟨e1,e2,e3⟩:=hc
    have e1:a=0:=e1
    have e3:0+b=a₀.size:=e3
    have:=hg (a,b,c) (kA.mpr rfl)
    rw[<-e3,UB,<-e1]
    exact this
   |_::_::_,_,_,hz=>simp at hz
end
section
variable {prog:Program} {w:World} {A:Around} {E:Value->Shared->Prop} {s:Shared}
end
end TS
end L2
namespace L2
open PySem PySem.Spec PyProof.Rows
namespace TS
theorem nN {h:Heap} {v:Value} {k l:List Key} (x:yF h v k) (y:yF h v l):k=l:=by
 obtain⟨x,o,xs,n,s1,a,b,t1,t2,t3,rfl,g1,g2,g3,g4,rfl⟩:=x
 obtain⟨y,o',ys,n',s2,c,d,u1,u2,u3,e,f1,f2,f3,f4,rfl⟩:=y
 cases e
 rw[g1] at f1
 cases f1
 rw[g3] at f3
 cases f3
 rw[g4] at f4
 cases f4
 rfl
open Classical in
noncomputable def zJ (h:Heap) (v:Value):List Key:=if e:∃k,yF h v k then Classical.choose e else []
theorem ML {h:Heap} {v:Value} {k:List Key} (x:yF h v k):zJ h v=k:=by
 unfold zJ
 rw[dif_pos ⟨k,x⟩]
 exact nN (Classical.choose_spec (⟨k,x⟩:∃k,yF h v k)) x
noncomputable def oN (h:Heap) (ks:List (List Key)) (p:Keyed):Int:=(ks.countP λk'=>SG k' (zJ h p.1):Nat)
theorem NL {α:Type} {p q:α->Bool}:∀{l:List α},(∀x∈l,p x=true->q x=true)->l.countP p<=l.countP q:=λh=>List.countP_mono_left h
theorem OZ {α:Type} {p q:α->Bool}:∀{l:List α} {y:α},(∀x∈l,p x=true->q x=true)->y∈l->q y=true->p y=false->l.countP p < l.countP q
 |x::l,y,h,hy,h1,h2=>by
  rw[List.countP_cons,List.countP_cons]
  rcases xA.mp hy with rfl|hy
  ·rw[h1,h2]
   have:=NL (p:=p) (q:=q) (l:=l) λz hz=>h z (jA _ hz)
   simp only[RC,QA,HB]
   omega
  ·have:=OZ (l:=l) (λz hz=>h z (jA _ hz)) hy h1 h2
   have h3:=h x (wA ..)
   cases e:p x with
   |false=>simp only[QA,HB];split<;>omega
   |true=>rw[h3 e];simp only[RC];omega
theorem OL {ks:List (List Key)} (ht:∀k∈ks,uG k) {k l:List Key} (hk:k∈ks) (hl:l∈ks):SG k l=decide ((ks.countP λk'=>SG k' k) < (ks.countP λk'=>SG k' l)):=by
 have go:∀{k l:List Key},k∈ks->l∈ks->SG k l=true->(ks.countP λk'=>SG k' k) < (ks.countP λk'=>SG k' l):=λ{k l} hk hl h=>
  OZ (y:=k) (λx hx e=>aT (ht x hx) (ht k hk) (ht l hl) e h) hk h mZ
 cases e:SG k l with
 |true=>exact (AA (go hk hl e)).symm
 |false=>
  refine (vA λh=>?_).symm
  by_cases c:k=l
  ·subst c;exact SB _ h
  ·rcases ZS (ht k hk) (ht l hl) c with h1|h1
   ·rw[h1] at e;cases e
   ·exact SB _ (Nat.lt_trans h (go hl hk h1))
section
variable {prog:Program} {w:World} {A:Around} {E:Value->Shared->Prop} {s:Shared}
noncomputable def tT (h:Heap) (ks:List (List Key)) (p:Keyed):Prop:=∃k∈ks,yF h p.1 k
theorem pN {ks:List (List Key)} (ht:∀k∈ks,uG k):Od (tuples' true) (tT s.heap ks) (oN s.heap ks) (model prog w) A E s:=λst x y Q hk hx hy h=>by
 obtain⟨k,k1,k2⟩:=hx
 obtain⟨l,l1,l2⟩:=hy
 rw[lt'_eq]
 refine rA (KD ?_)
 rw[hk]
 refine rA (fE (wpAny_attempt (ZM k2 l2 ⟨rfl,?_⟩)))
 refine yA ?_
 have e:decide (oN s.heap ks x < oN s.heap ks y)=SG k l:=by
  unfold oN
  rw[ML k2,ML l2,OL ht k1 l1]
  exact decide_eq_decide.mpr Int.ofNat_lt
 rw[e] at h
 exact h
theorem b9 {a:Addr} {vs:List Value} {ks:List (List Key)} {n:Nat} {P:Fin->Shared->Prop} {F:Value->List Key->Prop} (hF:∀v k,F v k->yF s.heap v k) (ho:s.heap.get? a=some (seqObj "list" vs.toArray n)) (h2:2<=vs.length) (h64:vs.length<=sizeLine) (ht:Paired F vs ks) (nd:ks.Nodup)
  (h:∀(out:List Value) (ks':List (List Key)),Paired F out ks'->ks'.Perm ks->ks'.Pairwise (SG · ·=true)->P (.done (.ret .none)) {s with heap:=sortedHeap s.heap a vs out.toArray}):wpAny (model prog w) A (Builtin.«list.sort» ⟨[.ref a],[]⟩) P E s:=by
 rw[list_sort_plain]
 have ha:a < s.heap.objs.size:=HA ho
 refine gA (listItems_at ho rfl ?_)
 refine gA (listUpdate_at ho rfl ?_ (hsz:=by rw[JA];exact h64) (hsz2:=fC _))
 obtain⟨e1,ho1⟩:∃e1,(s.heap.update a (Obj.mapSeq λ_=> #[])).get? a=some (seqObj "list" #[] e1):=⟨_,get?_update_seq ho (λ_=> #[])⟩
 refine gA (seqEpoch_at ho1 rfl ?_)
 refine gA (wpAny_newTuple ?_ (by exact h64))
 refine gA (aE ?_)
 refine IB ?_
 have ho6:(((s.heap.update a (Obj.mapSeq λ_=> #[])).push (seqObj "tuple" vs.toArray 0)).push (seqObj "list" #[] 0)).get? a=some (seqObj "list" #[] e1):=by
  rw[nD _ _ _ (by rw[size_push',AD];exact VA (rD ha)),nD _ _ _ (by rw[AD];exact VA ha)]
  exact ho1
 show wpAny (model prog w) A _ P E {s with heap:=((s.heap.update a (Obj.mapSeq λ_=> #[])).push (seqObj "tuple" vs.toArray 0)).push (seqObj "list" #[] 0)}
 dsimp only
 have hsz:¬vs.toArray.size < 2:=by rw[JA];omega
 rw[fA hsz,fA hsz]
 have kp:∀y o,s.heap.get? y=some o->o.cls=.type "tuple"->(((s.heap.update a (Obj.mapSeq λ_=> #[])).push (seqObj "tuple" vs.toArray 0)).push (seqObj "list" #[] 0)).get? y=some o:=λy o hy hc=>by
  refine sA _ (sA _ ?_)
  rw[Heap.get?_update_ne _ _ _ _ (λz=>by rw[z,ho] at hy;cases hy;exact absurd (Value.type.inj hc) (by decide))]
  exact hy
 have ht6:Paired (yF (((s.heap.update a (Obj.mapSeq λ_=> #[])).push (seqObj "tuple" vs.toArray 0)).push (seqObj "list" #[] 0))) vs ks:=Paired.mapP ht λ_ _ q=>cT (hF _ _ q) kp
 generalize hh6:((s.heap.update a (Obj.mapSeq λ_=> #[])).push (seqObj "tuple" vs.toArray 0)).push (seqObj "list" #[] 0)=h6 at *
 obtain⟨fs,f1,f2,f3⟩:=oZ ht6
 refine gA (PySem.W.kat_kind (fs:=fs) (T:=.type "str") f1 (by omega) (λv hv=>?_) (by decide) ?_)
 ·obtain⟨s9,t9,rfl⟩:=f3 v hv
  intro A' Q' E' s' _ q'
  exact DA q'
 rw[show (Value.type "str" != Value.type "tuple")=true by decide]
 have htr:∀k∈ks,uG k:=λk hk=>by
  have:∀{vs:List Value} {ks:List (List Key)},Paired (yF h6) vs ks->∀k∈ks,uG k:=λhp=>by
   induction hp with
   |nil=>intro k hk;cases hk
   |cons r _ ih=>
    intro k hk
    rcases xA.mp hk with rfl|hk
    ·exact r.tri
    ·exact ih k hk
  exact this ht6 k hk
 have hmv:∀v∈vs,∃k,k∈ks/\yF h6 v k/\F v k:=λv hv=>by
  obtain⟨i,hi,e⟩:=List.getElem_of_mem hv
  have e1:vs[i]?=some v:=by rw[bA hi,e]
  obtain⟨k,a1,a2⟩:=bT ht6 e1
  obtain⟨l,b1,b2⟩:=bT ht e1
  rw[a1] at b1
  cases b1
  exact⟨k,dA a1,a2,b2⟩
 have hky:vs.map (zJ h6)=ks:=by
  have:∀{vs:List Value} {ks:List (List Key)},Paired (yF h6) vs ks->vs.map (zJ h6)=ks:=λhp=>by
   induction hp with
   |nil=>rfl
   |cons r _ ih=>rw[CA,ih,ML r]
  exact this ht6
 have hok:ZF (tT h6 ks) (pairsOf vs):=λp hp=>by
  rw[pairsOf_toList] at hp
  obtain⟨k,k1,k2,_⟩:=hmv p.1 (mem_zip_self hp).2
  exact⟨k,k1,k2⟩
 refine gA (LB (Z8 (s:={s with heap:=h6}) (A:=A) (E:=E) (a₀:=pairsOf vs) (kd:=tuples' true) (Ok:=tT h6 ks) (rk:=oN h6 ks) (st:=SortSt.mk' (tuples' true) (vs.toArray.zip vs.toArray) #[] 7 none)
   (Q:=λ_ st'=>(arrOf st').Perm (pairsOf vs)/\failedOf st'=none/\QG (oN h6 ks) (arrOf st') 0 (pairsOf vs).size)
   (pN (s:={s with heap:=h6}) htr) hok ⟨Array.Perm.refl _,rfl,rfl,rfl⟩ (by rw[pairsOf_size];omega) λst' a1 a2 a3=>⟨a1,a2,a3⟩) ?_ λ_ _ e=>e)
 rintro⟨⟨⟩,st'⟩ s' ⟨rfl,hp,hf,hs⟩
 dsimp only
 refine gA (seqEpoch_at ho6 rfl ?_)
 have hl:(arrOf st').toList.Perm (vs.zip vs):=by rw[<-pairsOf_toList];exact VC.mp hp
 have hmem:∀p,p∈(arrOf st').toList->p.1=p.2/\p.1∈vs:=λp hp'=>mem_zip_self (hl.mem_iff.mp hp')
 have hsz2:(arrOf st').size=vs.length:=hp.size_eq.trans (pairsOf_size _)
 refine gA (listUpdate_at ho6 rfl ?_ (hsz2:=by refine EB (Nat.le_of_eq ((Array.size_map ..).trans hsz2)) ?_;exact Nat.le_succ_of_le h64))
 rw[hf]
 simp only[bne_self_eq_false,QA,HB]
 refine DA ?_
 have hperm:((arrOf st').toList.map λp=>zJ h6 p.1).Perm ks:=by
  have h1:=hl.map (λp=>zJ h6 p.1)
  have e2:(vs.zip vs).map (λp=>zJ h6 p.1)=ks:=by
   have:(vs.zip vs).map (λp=>zJ h6 p.1)=((vs.zip vs).map Prod.fst).map (zJ h6):=by rw[List.map_map];rfl
   rw[this,List.map_fst_zip (pA _),hky]
  rwa[e2] at h1
 have:=h ((arrOf st').map (·.2)).toList ((arrOf st').toList.map λp=>zJ h6 p.1) ?_ hperm ?_
 ·rw[<-hh6]
  exact this
 ·rw[Array.toList_map]
  clear hs hp hsz2 hl hperm
  generalize (arrOf st').toList=l at *
  induction l with
  |nil=>exact .nil
  |cons p l ih=>
   refine .cons ?_ (ih λq hq=>hmem q (jA _ hq))
   obtain⟨e1,e2⟩:=hmem p (wA ..)
   obtain⟨k,_,k2,k3⟩:=hmv p.1 e2
   show F p.2 (zJ h6 p.1)
   rw[<-e1,ML k2]
   exact k3
 ·rw[WD,cB]
  intro i j hi hj hij
  have hj2:j < (pairsOf vs).size:=by rw[zA,hsz2] at hj;rw[pairsOf_size];exact hj
  have hle:=hs i j (gE hij) hj2
  rw[UB,UB,oH (show (arrOf st')[i]?=some (arrOf st').toList[i] by rw[<-LA];exact bA hi),oH (show (arrOf st')[j]?=some (arrOf st').toList[j] by rw[<-LA];exact bA hj)] at hle
  obtain⟨_,m1⟩:=hmem _ (BD hi)
  obtain⟨_,m2⟩:=hmem _ (BD hj)
  obtain⟨k,k1,k2,_⟩:=hmv _ m1
  obtain⟨l,l1,l2,_⟩:=hmv _ m2
  unfold oN at hle
  rw[ML k2,ML l2] at hle ⊢
  have nd2:((arrOf st').toList.map λp=>zJ h6 p.1).Nodup:=hperm.nodup_iff.mpr nd
  have ne:k≠l:=by
   have:=cB.mp nd2 i j (by rw[lA];exact hi) (by rw[lA];exact hj) hij
   rw[List.getElem_map,List.getElem_map,ML k2,ML l2] at this
   exact this
  rcases ZS (htr k k1) (htr l l1) ne with h1|h1
  ·exact h1
  ·have h2:=OL htr l1 k1
   rw[h1] at h2
   have:=KB h2.symm
   omega
theorem list_sort_trisB {a:Addr} {vs:List Value} {ks:List (List Key)} {n:Nat} {P:Fin->Shared->Prop} {F:Value->List Key->Prop} (hF:∀v k,F v k->yF s.heap v k) (ho:s.heap.get? a=some (seqObj "list" vs.toArray n)) (h64:vs.length<=sizeLine) (ht:Paired F vs ks) (nd:ks.Nodup)
  (h:∀(out:List Value) (ks':List (List Key)),Paired F out ks'->ks'.Perm ks->ks'.Pairwise (SG · ·=true)->P (.done (.ret .none)) {s with heap:=sortedHeap s.heap a vs out.toArray}):wpAny (model prog w) A (Builtin.«list.sort» ⟨[.ref a],[]⟩) P E s:=by
 by_cases h2:2<=vs.length
 ·exact b9 hF ho h2 h64 ht nd h
 ·refine i8 ho (by omega) (h vs ks ht (rB _) ?_)
  have hl:=Paired.length ht
  match ks,hl with
  |[],_=>exact .nil
  |[k],_=>exact WB _ _
  |_::_::_,hl=>rw[WA,WA] at hl;omega
end
end TS
theorem g9 {X:Cx} (hc:X.calm=true):zG X (.builtin "sorted") (λxs H Q=>∃p kvs,xs=[.ref p]/\H p=some (.dT kvs)/\(∀kv∈kvs,uG kv.1)/\∀l us ks,H l=none->yI H ks us->ks.Perm (kvs.map (·.1))->ks.Pairwise (SG · ·=true)->Q (.ref l) (upd H l (.lst us))):=by
 intro pins s σ H xs us Q I r h
 obtain⟨p,kvs,rfl,hp,htri,q⟩:=h
 obtain⟨u,rfl,ru⟩:=QH r
 cases ru
 obtain⟨z,nd,ys,rel,o,es,ep,e0,ec,ed,he,hnd⟩:=lO I.hok hp
 have hsz:=size_of_entries he
 have hlen:=Paired.length rel
 refine Calls.call_function_entry kind_sorted plain_sorted entry_sorted (args_sorted1 _) ?_
 unfold Builtin.«sorted»
 refine gA (m:=checkCount "sorted" 1 1 _) (DA ?_)
 refine gA (PySem.W.kdu_collect (A:=X.A.in1) (K7 (es:=es) (ep:=ep) nd) (I.ok.hd hc) ⟨o,e0,ec,ed⟩ (by rw[hsz,<-hlen];exact z) λh' tk acc hk hacc=>?_)
 have ea:acc.toList=ys.map λy=>Value.ref y.2.1:=by
  refine qD λj=>?_
  rw[NA]
  by_cases c:j < es.size
  ·have hj:j < acc.toList.length:=by rw[zA,hacc.1];exact c
   obtain⟨_,e⟩:=hacc.2 j _ (by rw[<-LA];exact bA hj)
   rw[bA hj,e]
   have e3:=entry_at he j
   rw[GB c,bA (by omega)] at e3
   have e3:=cA e3
   rw[e3,bA (by omega)]
   rfl
  ·rw[oC (by rw[zA,hacc.1];omega),oC (by omega)]
   rfl
 have hal:acc.toList.length=kvs.length:=by rw[ea,lA];exact hlen.symm
 have hP:Paired (λv k=>uG k/\∃a,v=Value.ref a/\H a=some (.tup (k.map kV))) acc.toList (kvs.map (·.1)):=by
  rw[ea]
  clear ea hal he hnd hsz hlen q hp z
  induction rel with
  |nil=>exact .nil
  |@cons x y _ _ r t ih=>exact .cons ⟨htri x (wA ..),_,rfl,r.2.1⟩ (ih λkv hkv=>htri kv (jA _ hkv))
 have hndk:(kvs.map (·.1)).Nodup:=by
  have:kvs.map (·.1)=ys.map (·.1):=by
   clear ea hal he hnd hsz hlen q hp hP htri z
   induction rel with
   |nil=>rfl
   |cons r t ih=>rw[CA,CA,ih,r.1]
  rw[this];exact hnd.2
 have I1:wE X pins σ H {s with heap:=h',toks:=tk}:=I.kept (t':=tk) hk
 refine gA (aE ?_ (by rw[hal];exact z))
 have hoL:(h'.push (seqObj "list" acc.toList.toArray 0)).get? h'.objs.size=some (seqObj "list" acc.toList.toArray 0):=OA _ rfl
 refine gA (IB (WC slot_list_sort ⟨_,hoL,rfl⟩ entry_list_sort (TS.list_sort_trisB (F:=λv k=>uG k/\∃a,v=Value.ref a/\H a=some (.tup (k.map kV))) (λv k ⟨h1,a,e,h2⟩=>?_) hoL (by rw[hal];exact z) hP hndk λout ks o1 o2 o3=>⟨_,rfl,?_⟩) (args_list_sort _)))
 ·subst e
  exact cT (pZ I1.hok h2 h1) λy o hy _=>sA _ hy
 obtain⟨e,he2⟩:=sortedHeap_at (out:=out.toArray) hoL
 obtain⟨us,v1,v2⟩:=eT o1
 have hul:=v1.length
 have hol:out.length=kvs.length:=by rw[Paired.length o1,o2.length_eq,lA]
 refine DA ⟨_,rfl,⟨.ref h'.objs.size,_,I1.laid (t':=tk) (λb o hb=>?_) (pA _) (show NE X.prog X.w _ _ _ (.lst us) from ⟨by rw[hul,hol];exact z,out,e,v1,he2⟩),rfl,q _ us ks (I1.hok.fresh (pA _)) v2 o2 o3⟩⟩
 have hlt:=HA hb
 rw[sortedHeap_old (VA hlt) (by rw[size_push'];exact rD hlt)]
 exact sA _ hb
theorem PZ {X:Cx} (hc:X.calm=true):zG X (.builtin "sorted") (λxs H Q=>∃p vs ks0,xs=[.ref p]/\xE X.K H p vs/\yI H ks0 vs/\ks0.Nodup/\(∀k∈ks0,uG k)/\∀l us ks,H l=none->yI H ks us->ks.Perm ks0->ks.Pairwise (SG · ·=true)->Q (.ref l) (upd H l (.lst us))):=by
 intro pins s σ H xs us Q I r h
 obtain⟨p,vs,ks0,rfl,hq,hk0,hnd,htri,q⟩:=h
 obtain⟨u,rfl,ru⟩:=QH r
 cases ru
 obtain⟨its,r',pl,hz⟩:=I.list hq
 have hlen:=r'.length
 refine Calls.call_function_entry kind_sorted plain_sorted entry_sorted (args_sorted1 _) ?_
 unfold Builtin.«sorted»
 refine gA (m:=checkCount "sorted" 1 1 _) (DA ?_)
 refine gA (collect_list pl.isList ?_ (by omega))
 have hk:∀b o,s.heap.get? b=some o->((s.heap.push (seqObj "list" #[] 0)).update s.heap.objs.size (Obj.mapSeq λx=>x++its.toArray)).get? b=some o:=λb o hb=>by
  rw[Heap.get?_update_ne _ _ _ _ (VA (HA hb))]
  exact sA _ hb
 generalize (s.heap.push (seqObj "list" #[] 0)).update s.heap.objs.size (Obj.mapSeq λx=>x++its.toArray)=h' at *
 have hP:=qZ r' hk0 htri
 have I1:wE X pins σ H {s with heap:=h'}:=I.kept (t':=s.toks) hk
 refine gA (aE ?_ (by rw[<-hlen];exact hz))
 have hoL:(h'.push (seqObj "list" its.toArray 0)).get? h'.objs.size=some (seqObj "list" its.toArray 0):=OA _ rfl
 refine gA (IB (WC slot_list_sort ⟨_,hoL,rfl⟩ entry_list_sort (TS.list_sort_trisB (F:=λv k=>uG k/\∃a,v=Value.ref a/\H a=some (.tup (k.map kV))) (λv k ⟨h1,a,e,h2⟩=>?_) hoL (by omega) hP hnd λout ks o1 o2 o3=>⟨_,rfl,?_⟩) (args_list_sort _)))
 ·subst e
  exact cT (pZ I1.hok h2 h1) λy o hy _=>sA _ hy
 obtain⟨e,he2⟩:=sortedHeap_at (out:=out.toArray) hoL
 obtain⟨us,v1,v2⟩:=eT o1
 have hul:=v1.length
 have hol:out.length=its.length:=by rw[Paired.length o1,o2.length_eq,<-Paired.length hP]
 refine DA ⟨_,rfl,⟨.ref h'.objs.size,_,I1.laid (t':=s.toks) (λb o hb=>?_) (pA _) (show NE X.prog X.w _ _ _ (.lst us) from ⟨by rw[hul,hol,<-hlen];exact hz,out,e,v1,he2⟩),rfl,q _ us ks (I1.hok.fresh (pA _)) v2 o2 o3⟩⟩
 have hlt:=HA hb
 rw[sortedHeap_old (VA hlt) (by rw[size_push'];exact rD hlt)]
 exact sA _ hb
theorem m9 {X:Cx} {K:PySem.W.Frag} {n:Nat} (hK:X.K=K) (hu:X.A.units+n+2 < cLine):fH X (compareOp .Eq) (KK K n):=by subst hK;exact OY hu
end L2
set_option hygiene false in
local macro_rules| `(tactic|walk_at "wp")=> `(tactic|simp only[↓L2.PM, ↓L2.xP, ↓L2.yP, ↓L2.QM,L2.VO,L2.tNext,L2.BK,L2.OH,L2.WO,L2.aL,L2.XO,L2.WX,L2.iL,L2.tB,L2.wM,L2.sM,L2.SH,L2.tC,L2.rI,L2.CK,L2.QO,L2.VX,L2.RO,L2.YK,L2.ZK,L2.TJ,L2.WI,L2.UJ,L2.zS,L2.jL,L2.tNil,L2.mP,L2.lP,L2.FK,L2.qJ,L2.wP,L2.uY,L2.jP,L2.kP,L2.WJ,L2.rEq,L2.rNe,L2.BG,L2.dP,L2.eP,L2.DK,L2.HM,L2.qP,L2.IM,L2.JM,L2.V7,L2.K6,L2.M6,L2.N6,L2.t6,L2.u6,L2.bF,L2.R3,L2.HO.ins.injEq,L2.rCat,L2.O6,L2.P6,L2.rL,L2.fL,L2.eL,L2.vL,L2.ZO,L2.gNil,L2.bL,L2.wY,L2.rAppend,L2.aP,L2.rSetL,L2.YJ,L2.tYes,Option.join_some,Option.join_none,PySem.sizeLine_eq,Nat.reduceLeDiff,eq_self,AB,
 CA,dC,WA,List.length_nil,List.cons_append,gD,wC,List.replicate,Nat.reduceSub,Nat.reduceAdd,List.getElem?_cons_zero,List.getElem?_cons_succ,List.set_cons_zero,List.set_cons_succ,
 OC,eD,L2.V.int.injEq,L2.V.bl.injEq,L2.V.ref.injEq,L2.V.ty.injEq,L2.V.str.injEq,exists_eq_left,exists_eq_left',exists_and_left,exists_eq',exists_const,and_assoc,QD,true_and, ↓reduceIte,Int.reduceLE,Int.reduceLT,Nat.reducePow,Int.reducePow,Int.reduceNeg,L2.QS,Nat.reduceLT,Int.reduceToNat,Int.reduceAdd,Int.reduceMul,Int.reduceSub,true_or,or_true,HD,uD])
noncomputable def PySem.W.Fast.tw11195492713524011629:PySem.Program:=PySem.Challenge.pw_frameland_k66_folded_sheets
theorem PySem.W.Fast.te11195492713524011629:PySem.Challenge.pw_frameland_k66_folded_sheets=PySem.W.Fast.tw11195492713524011629:=rfl
namespace Pf
open PySem L2
noncomputable def UE (i:Nat):Stmt:=PySem.Challenge.pw_frameland_k66_folded_sheets.main.body.getD i (.Pass ⟨0,0,0,0⟩)
noncomputable abbrev uT:Stmt:=UE 5
theorem IR:tE ["marks","hand","passed","place"] ["marks","hand"] (qE uT):=⟨rfl,rfl,rfl,by decide+kernel,rfl,by decide+kernel,by decide+kernel⟩
noncomputable abbrev vT:Stmt:=rE (UE 7) 0
theorem u9:tE ["self","boxes","holder"] ["self","boxes","holder"] (qE vT):=⟨rfl,rfl,rfl,by decide+kernel,rfl,by decide+kernel,by decide+kernel⟩
noncomputable abbrev wT:Stmt:=rE (UE 7) 1
theorem y9:tE ["self"] ["self"] (qE wT):=⟨rfl,rfl,rfl,by decide+kernel,rfl,by decide+kernel,by decide+kernel⟩
noncomputable abbrev xT:Stmt:=rE (UE 7) 2
theorem I9:tE ["self"] ["self"] (qE xT):=⟨rfl,rfl,rfl,by decide+kernel,rfl,by decide+kernel,by decide+kernel⟩
noncomputable abbrev yT:Stmt:=rE (UE 8) 0
theorem K9:tE ["self","many"] ["self","many"] (qE yT):=⟨rfl,rfl,rfl,by decide+kernel,rfl,by decide+kernel,by decide+kernel⟩
noncomputable abbrev zT:Stmt:=rE (UE 8) 1
theorem AT:tE ["self","place","sheet"] ["self"] (qE zT):=⟨rfl,rfl,rfl,by decide+kernel,rfl,by decide+kernel,by decide+kernel⟩
noncomputable abbrev CT:Stmt:=rE (UE 8) 2
theorem QZ:tE ["self","twin"] ["self"] (qE CT):=⟨rfl,rfl,rfl,by decide+kernel,rfl,by decide+kernel,by decide+kernel⟩
noncomputable abbrev DT:Stmt:=rE (UE 8) 3
theorem N9:tE ["self"] ["self"] (qE DT):=⟨rfl,rfl,rfl,by decide+kernel,rfl,by decide+kernel,by decide+kernel⟩
noncomputable abbrev ET:Stmt:=rE (UE 10) 0
theorem O9:tE ["self","frames","slots","size"] ["self","frames","slots","size"] (qE ET):=⟨rfl,rfl,rfl,by decide+kernel,rfl,by decide+kernel,by decide+kernel⟩
noncomputable abbrev FT:Stmt:=rE (UE 10) 1
theorem RZ:tE ["self","sheet","holder","marks","way"] ["self","sheet","holder","marks"] (qE FT):=⟨rfl,rfl,rfl,by decide+kernel,rfl,by decide+kernel,by decide+kernel⟩
noncomputable abbrev GT:Stmt:=rE (UE 10) 2
theorem IT:tE ["self","slot","marks","coming","way"] ["self","slot","marks"] (qE GT):=⟨rfl,rfl,rfl,by decide+kernel,rfl,by decide+kernel,by decide+kernel⟩
noncomputable abbrev JT:Stmt:=rE (UE 10) 3
theorem SZ:tE ["self","spot","holder","sheet"] ["self","spot","holder"] (qE JT):=⟨rfl,rfl,rfl,by decide+kernel,rfl,by decide+kernel,by decide+kernel⟩
noncomputable abbrev LT:Stmt:=rE (UE 10) 5
theorem TZ:tE ["self","spot","sheet"] ["self","spot"] (qE LT):=⟨rfl,rfl,rfl,by decide+kernel,rfl,by decide+kernel,by decide+kernel⟩
noncomputable abbrev MT:Stmt:=rE (UE 10) 7
theorem UZ:tE ["self","spot","sheet"] ["self","spot"] (qE MT):=⟨rfl,rfl,rfl,by decide+kernel,rfl,by decide+kernel,by decide+kernel⟩
noncomputable abbrev NT:Stmt:=rE (UE 10) 10
theorem vO:tE ["self","first_by_boxes","gone","spot","sheet","first"] ["self"] (qE NT):=⟨rfl,rfl,rfl,by decide+kernel,rfl,by decide+kernel,by decide+kernel⟩
noncomputable abbrev OT:Stmt:=rE (UE 10) 11
theorem P9:tE ["self"] ["self"] (qE OT):=⟨rfl,rfl,rfl,by decide+kernel,rfl,by decide+kernel,by decide+kernel⟩
noncomputable abbrev QT:Stmt:=rE (UE 10) 12
theorem Q9:tE ["self"] ["self"] (qE QT):=⟨rfl,rfl,rfl,by decide+kernel,rfl,by decide+kernel,by decide+kernel⟩
noncomputable abbrev UT:Stmt:=rE (UE 10) 13
theorem R9:tE ["self"] ["self"] (qE UT):=⟨rfl,rfl,rfl,by decide+kernel,rfl,by decide+kernel,by decide+kernel⟩
noncomputable abbrev VT:Stmt:=rE (UE 10) 14
theorem JR:tE ["self","told","frame","sheet"] ["self"] (qE VT):=⟨rfl,rfl,rfl,by decide+kernel,rfl,by decide+kernel,by decide+kernel⟩
noncomputable abbrev WT:Stmt:=rE (UE 10) 15
theorem U9:tE ["self"] ["self"] (qE WT):=⟨rfl,rfl,rfl,by decide+kernel,rfl,by decide+kernel,by decide+kernel⟩
noncomputable abbrev XT:Stmt:=rE (UE 10) 16
theorem V9:tE ["self"] ["self"] (qE XT):=⟨rfl,rfl,rfl,by decide+kernel,rfl,by decide+kernel,by decide+kernel⟩
noncomputable abbrev YT:Stmt:=rE (UE 10) 17
theorem VZ:tE ["self","spot","spots"] ["self","spot"] (qE YT):=⟨rfl,rfl,rfl,by decide+kernel,rfl,by decide+kernel,by decide+kernel⟩
noncomputable abbrev ZT:Stmt:=rE (UE 10) 18
theorem WZ:tE ["self","frames"] ["self"] (qE ZT):=⟨rfl,rfl,rfl,by decide+kernel,rfl,by decide+kernel,by decide+kernel⟩
noncomputable abbrev aU:Stmt:=rE (UE 10) 19
theorem bU:tE ["self","slot","sheet","frame"] ["self","slot"] (qE aU):=⟨rfl,rfl,rfl,by decide+kernel,rfl,by decide+kernel,by decide+kernel⟩
noncomputable abbrev cU:Stmt:=rE (UE 10) 20
theorem XZ:tE ["self","spot","other","holder"] ["self","spot","other"] (qE cU):=⟨rfl,rfl,rfl,by decide+kernel,rfl,by decide+kernel,by decide+kernel⟩
noncomputable abbrev dU:Stmt:=rE (UE 10) 21
theorem X9:tE ["self","spot"] ["self","spot"] (qE dU):=⟨rfl,rfl,rfl,by decide+kernel,rfl,by decide+kernel,by decide+kernel⟩
noncomputable abbrev eU:Stmt:=rE (UE 10) 22
theorem YZ:tE ["self","frame","slot"] ["self","frame"] (qE eU):=⟨rfl,rfl,rfl,by decide+kernel,rfl,by decide+kernel,by decide+kernel⟩
noncomputable abbrev fU:Stmt:=rE (UE 10) 23
theorem gU:tE ["self","coming_from","marks","frame","choice"] ["self","coming_from","marks"] (qE fU):=⟨rfl,rfl,rfl,by decide+kernel,rfl,by decide+kernel,by decide+kernel⟩
noncomputable abbrev hU:Stmt:=rE (UE 10) 24
theorem iU:tE ["self","frame","coming_from","sheet","slot"] ["self","frame","coming_from"] (qE hU):=⟨rfl,rfl,rfl,by decide+kernel,rfl,by decide+kernel,by decide+kernel⟩
noncomputable abbrev jU:Stmt:=rE (UE 10) 25
theorem kU:tE ["self","frame","coming_from","empty","twin"] ["self","frame","coming_from"] (qE jU):=⟨rfl,rfl,rfl,by decide+kernel,rfl,by decide+kernel,by decide+kernel⟩
noncomputable abbrev lU:Stmt:=UE 12
theorem Y9:tE ["_law_script","_law_k"] ["_law_script","_law_k"] (qE lU):=⟨rfl,rfl,rfl,by decide+kernel,rfl,by decide+kernel,by decide+kernel⟩
noncomputable abbrev mU:Stmt:=UE 13
theorem nU:tE ["_law_found","_law_due","_law_k"] ["_law_found","_law_due"] (qE mU):=⟨rfl,rfl,rfl,by decide+kernel,rfl,by decide+kernel,by decide+kernel⟩
noncomputable abbrev oU:Stmt:=UE 14
theorem AJ:tE ["_law_plain","_law_marks","_law_slot","_law_frames","_law_slots","_law_k","_law_passed","_law_at_here","_law_goal"] ["_law_plain","_law_marks","_law_slot"] (qE oU):=⟨rfl,rfl,rfl,by decide+kernel,rfl,by decide+kernel,by decide+kernel⟩
noncomputable abbrev pU:Stmt:=UE 15
theorem qU:tE ["_law_found","_law_row","_law_due","_law_one"] ["_law_found","_law_row"] (qE pU):=⟨rfl,rfl,rfl,by decide+kernel,rfl,by decide+kernel,by decide+kernel⟩
noncomputable abbrev rU:Stmt:=UE 16
theorem Z9:tE ["_law_plain","_law_spot"] ["_law_plain","_law_spot"] (qE rU):=⟨rfl,rfl,rfl,by decide+kernel,rfl,by decide+kernel,by decide+kernel⟩
noncomputable abbrev sU:Stmt:=UE 17
theorem ZZ:tE ["_law_plain","_law_spot","_law_one"] ["_law_plain","_law_spot"] (qE sU):=⟨rfl,rfl,rfl,by decide+kernel,rfl,by decide+kernel,by decide+kernel⟩
noncomputable abbrev tU:Stmt:=UE 18
theorem qN:tE ["_law_plain","_law_spots","_law_firsts","_law_moves","_law_spot","_law_one","_law_same"] ["_law_plain"] (qE tU):=⟨rfl,rfl,rfl,by decide+kernel,rfl,by decide+kernel,by decide+kernel⟩
noncomputable abbrev uU:Stmt:=UE 19
theorem c0:tE ["_law_sheets","_law_plain","_law_sheet","_law_holder","_law_marks","_law_place"] ["_law_sheets","_law_plain","_law_sheet","_law_holder","_law_marks"] (qE uU):=⟨rfl,rfl,rfl,by decide+kernel,rfl,by decide+kernel,by decide+kernel⟩
noncomputable abbrev vU:Stmt:=UE 20
theorem WP:tE ["_law_sheets","_law_plain","_law_slot","_law_marks","_law_coming","_law_got","_law_twin"] ["_law_sheets","_law_plain","_law_slot","_law_marks"] (qE vU):=⟨rfl,rfl,rfl,by decide+kernel,rfl,by decide+kernel,by decide+kernel⟩
noncomputable abbrev wU:Stmt:=UE 21
theorem kK:tE ["_law_sheets","_law_plain","_law_script","_law_k","_law_cell_here","_law_number","_law_marks","_law_sheet","_law_words","_law_place","_law_more","_law_some"] ["_law_sheets","_law_plain","_law_script","_law_k"] (qE wU):=⟨rfl,rfl,rfl,by decide+kernel,rfl,by decide+kernel,by decide+kernel⟩
noncomputable abbrev xU:Stmt:=UE 22
theorem ZP:tE ["_law_sheets","_law_plain","_law_ahead","_law_due","_law_many"] ["_law_sheets","_law_plain"] (qE xU):=⟨rfl,rfl,rfl,by decide+kernel,rfl,by decide+kernel,by decide+kernel⟩
noncomputable abbrev KR:Stmt:=UE 23
theorem lK:tE ["_law_script","_law_frames","_law_slots","_law_sheets","_law_plain","_law_many","_law_k","_law_full"] ["_law_script"] (qE KR):=⟨rfl,rfl,rfl,by decide+kernel,rfl,by decide+kernel,by decide+kernel⟩
structure mI where
 Ac:Addr
 Ad:Addr
 Aa:Addr
 Ba:Addr
 A4:Addr
structure bG (K:PySem.W.Frag) (mg:Str->Option Value) (A:mI):Prop where
 Gf:mg "any"=none
 Ei:mg "bool"=none
 Db:mg "enumerate"=none
 Fp:mg "int"=none
 Al:mg "isinstance"=none
 Aj:mg "len"=none
 Bd:mg "list"=none
 Fq:mg "max"=none
 Ao:mg "range"=none
 Dc:mg "sorted"=none
 Ft:mg "str"=none
 Dq:mg "tuple"=none
 Fu:XI K mg "swept" "swept" uT ["marks","hand"] []
 E5:XI K mg "_law_cell" "_law_cell" lU ["_law_script","_law_k"] []
 Ej:XI K mg "_law_like" "_law_like" mU ["_law_found","_law_due"] []
 Fv:XI K mg "_law_out" "_law_out" oU ["_law_plain","_law_marks","_law_slot"] []
 E6:XI K mg "_law_told" "_law_told" pU ["_law_found","_law_row"] []
 F6:XI K mg "_law_at" "_law_at" rU ["_law_plain","_law_spot"] []
 E7:XI K mg "_law_gone" "_law_gone" sU ["_law_plain","_law_spot"] []
 Ev:XI K mg "_law_folded" "_law_folded" tU ["_law_plain"] []
 Ey:XI K mg "_law_fresh" "_law_fresh" uU ["_law_sheets","_law_plain","_law_sheet","_law_holder","_law_marks"] []
 E8:XI K mg "_law_back" "_law_back" vU ["_law_sheets","_law_plain","_law_slot","_law_marks"] []
 E9:XI K mg "_law_made" "_law_made" wU ["_law_sheets","_law_plain","_law_script","_law_k"] []
 Ez:XI K mg "_law_right" "_law_right" xU ["_law_sheets","_law_plain"] []
 An:JI K A.Ac
 Au:pF K A.Ac "boxes"
 Av:pF K A.Ac "holders"
 Ek:tJ K mg "Sheet" A.Ac "Sheet.__init__" vT ["self","boxes","holder"] []
 Bh:DF K A.Ac "told_holders" "Sheet.told_holders" wT ["self"] []
 Co:DF K A.Ac "is_banked" "Sheet.is_banked" xT ["self"] []
 Ae:JI K A.Ad
 Ag:pF K A.Ad "lying"
 Ai:pF K A.Ad "twins"
 El:tJ K mg "Spots" A.Ad "Spots.__init__" yT ["self","many"] []
 Bo:DF K A.Ad "first_empty" "Spots.first_empty" zT ["self"] []
 B1:DF K A.Ad "first_twin" "Spots.first_twin" CT ["self"] []
 B3:DF K A.Ad "live_count" "Spots.live_count" DT ["self"] []
 Ab:JI K A.Aa
 Dr:pF K A.Aa "size"
 Af:pF K A.Aa "frames"
 Ah:pF K A.Aa "slots"
 A0:pF K A.Aa "hand"
 As:pF K A.Aa "gone_out"
 Aq:pF K A.Aa "gone_astray"
 Ar:pF K A.Aa "come_back"
 D5:tJ K mg "Sheets" A.Aa "Sheets.__init__" ET ["self","frames","slots","size"] []
 Ds:DF K A.Aa "fresh" "Sheets.fresh" FT ["self","sheet","holder","marks"] []
 D6:DF K A.Aa "back" "Sheets.back" GT ["self","slot","marks"] []
 D7:DF K A.Aa "hold" "Sheets.hold" JT ["self","spot","holder"] []
 Bp:DF K A.Aa "holders_of" "Sheets.holders_of" LT ["self","spot"] []
 Cp:DF K A.Aa "sheet_at" "Sheets.sheet_at" MT ["self","spot"] []
 D9:DF K A.Aa "fold" "Sheets.fold" NT ["self"] []
 Bi:DF K A.Aa "live_sheets" "Sheets.live_sheets" OT ["self"] []
 Dd:DF K A.Aa "is_full" "Sheets.is_full" QT ["self"] []
 De:DF K A.Aa "hand_at" "Sheets.hand_at" UT ["self"] []
 Bj:DF K A.Aa "told_frames" "Sheets.told_frames" VT ["self"] []
 Bq:DF K A.Aa "told_slots" "Sheets.told_slots" WT ["self"] []
 Dt:DF K A.Aa "moved" "Sheets.moved" XT ["self"] []
 Cq:DF K A.Aa "lying_at" "Sheets.lying_at" YT ["self","spot"] []
 B4:DF K A.Aa "all_spots" "Sheets.all_spots" ZT ["self"] []
 B5:DF K A.Aa "told_slot" "Sheets.told_slot" aU ["self","slot"] []
 B6:DF K A.Aa "hand_over" "Sheets.hand_over" cU ["self","spot","other"] []
 Br:DF K A.Aa "make_empty" "Sheets.make_empty" dU ["self","spot"] []
 B7:DF K A.Aa "lose_twin" "Sheets.lose_twin" eU ["self","frame"] []
 B8:DF K A.Aa "frame_for" "Sheets.frame_for" fU ["self","coming_from","marks"] []
 Df:DF K A.Aa "put_out" "Sheets.put_out" hU ["self","frame","coming_from"] []
 Cr:DF K A.Aa "slot_for" "Sheets.slot_for" jU ["self","frame","coming_from"] []
 F7:∃u,mg "FrameError"=some u/\FE (.ref A.Ba) u
 Gi:∃u,mg "NoRoom"=some u/\FE (.ref A.A4) u
 Fa:XC K mg "NoRoom" A.A4
 Gg:∃f fd,mg "law"=some (.ref f)/\VI K "law" "law" KR f fd/\∀(s:Shared) (u:Value),BindsTo s fd ⟨[u],[]⟩ [("_law_script",u)]
theorem lJ {P:List Value->Prop} (h:∀a0,P [a0]):∀us:List Value,us.length=1->P us
 |[a0],_=>h a0
theorem mJ {P:List Value->Prop} (h:∀a0 a1,P [a0,a1]):∀us:List Value,us.length=2->P us
 |[a0,a1],_=>h a0 a1
theorem PL {P:List Value->Prop} (h:∀a0 a1 a2,P [a0,a1,a2]):∀us:List Value,us.length=3->P us
 |[a0,a1,a2],_=>h a0 a1 a2
theorem LR {P:List Value->Prop} (h:∀a0 a1 a2 a3,P [a0,a1,a2,a3]):∀us:List Value,us.length=4->P us
 |[a0,a1,a2,a3],_=>h a0 a1 a2 a3
theorem aa {P:List Value->Prop} (h:∀a0 a1 a2 a3 a4,P [a0,a1,a2,a3,a4]):∀us:List Value,us.length=5->P us
 |[a0,a1,a2,a3,a4],_=>h a0 a1 a2 a3 a4
theorem rN {K:PySem.W.Frag} {h:Heap} {mg:Str->Option Value} (X:K.In h) (G:h.Ns mainGlobals mg)
 {A4 Ba Aa Ad Ac:Addr}
 (Em:PySem.W.nsIn K mainGlobals "NoRoom"=some (some (.ref A4)))
 (En:PySem.W.nsIn K mainGlobals "FrameError"=some (some (.ref Ba)))
 (Fb:PySem.W.nsIn K mainGlobals "Sheets"=some (some (.ref Aa)))
 (Fw:PySem.W.nsIn K mainGlobals "Spots"=some (some (.ref Ad)))
 (Fx:PySem.W.nsIn K mainGlobals "Sheet"=some (some (.ref Ac)))
 (F8:PySem.W.nsIn K mainGlobals "any"=some none)
 (Fy:PySem.W.nsIn K mainGlobals "bool"=some none)
 (Eo:PySem.W.nsIn K mainGlobals "enumerate"=some none)
 (F9:PySem.W.nsIn K mainGlobals "int"=some none)
 (Ea:PySem.W.nsIn K mainGlobals "isinstance"=some none)
 (Ga:PySem.W.nsIn K mainGlobals "len"=some none)
 (Fz:PySem.W.nsIn K mainGlobals "list"=some none)
 (Gb:PySem.W.nsIn K mainGlobals "max"=some none)
 (Fc:PySem.W.nsIn K mainGlobals "range"=some none)
 (E0:PySem.W.nsIn K mainGlobals "sorted"=some none)
 (Gc:PySem.W.nsIn K mainGlobals "str"=some none)
 (Fd:PySem.W.nsIn K mainGlobals "tuple"=some none)
 (F0:GF K "swept" uT)
 (Fe:GF K "_law_cell" lU)
 (Ff:GF K "_law_like" mU)
 (F1:GF K "_law_out" oU)
 (Fg:GF K "_law_told" pU)
 (Ge:GF K "_law_at" rU)
 (Fh:GF K "_law_gone" sU)
 (Ew:GF K "_law_folded" tU)
 (E1:GF K "_law_fresh" uU)
 (Fj:GF K "_law_back" vU)
 (Fk:GF K "_law_made" wU)
 (E2:GF K "_law_right" xU)
 (F2:JI K Ac)
 (Du:PySem.W.findIn K (.ref Ac) "boxes"=some none)
 (Dg:PySem.W.findIn K (.ref Ac) "holders"=some none)
 (Ep:IF K Ac "Sheet.__init__" vT)
 (Bk:MF K Ac "told_holders" "Sheet.told_holders" wT)
 (Cu:MF K Ac "is_banked" "Sheet.is_banked" xT)
 (F4:JI K Ad)
 (Dw:PySem.W.findIn K (.ref Ad) "lying"=some none)
 (Dx:PySem.W.findIn K (.ref Ad) "twins"=some none)
 (Er:IF K Ad "Spots.__init__" yT)
 (Bs:MF K Ad "first_empty" "Spots.first_empty" zT)
 (B9:MF K Ad "first_twin" "Spots.first_twin" CT)
 (Ca:MF K Ad "live_count" "Spots.live_count" DT)
 (Fl:JI K Aa)
 (Dy:PySem.W.findIn K (.ref Aa) "size"=some none)
 (Dh:PySem.W.findIn K (.ref Aa) "frames"=some none)
 (Dp:PySem.W.findIn K (.ref Aa) "slots"=some none)
 (Dz:PySem.W.findIn K (.ref Aa) "hand"=some none)
 (Cb:PySem.W.findIn K (.ref Aa) "gone_out"=some none)
 (Bf:PySem.W.findIn K (.ref Aa) "gone_astray"=some none)
 (Bt:PySem.W.findIn K (.ref Aa) "come_back"=some none)
 (Eb:IF K Aa "Sheets.__init__" ET)
 (D0:MF K Aa "fresh" "Sheets.fresh" FT)
 (Ec:MF K Aa "back" "Sheets.back" GT)
 (Ed:MF K Aa "hold" "Sheets.hold" JT)
 (Bu:MF K Aa "holders_of" "Sheets.holders_of" LT)
 (Cv:MF K Aa "sheet_at" "Sheets.sheet_at" MT)
 (Ee:MF K Aa "fold" "Sheets.fold" NT)
 (Bl:MF K Aa "live_sheets" "Sheets.live_sheets" OT)
 (Di:MF K Aa "is_full" "Sheets.is_full" QT)
 (Dj:MF K Aa "hand_at" "Sheets.hand_at" UT)
 (Bm:MF K Aa "told_frames" "Sheets.told_frames" VT)
 (Bv:MF K Aa "told_slots" "Sheets.told_slots" WT)
 (D1:MF K Aa "moved" "Sheets.moved" XT)
 (Cw:MF K Aa "lying_at" "Sheets.lying_at" YT)
 (Cc:MF K Aa "all_spots" "Sheets.all_spots" ZT)
 (Cd:MF K Aa "told_slot" "Sheets.told_slot" aU)
 (Ce:MF K Aa "hand_over" "Sheets.hand_over" cU)
 (Bw:MF K Aa "make_empty" "Sheets.make_empty" dU)
 (Cf:MF K Aa "lose_twin" "Sheets.lose_twin" eU)
 (Cg:MF K Aa "frame_for" "Sheets.frame_for" fU)
 (Dk:MF K Aa "put_out" "Sheets.put_out" hU)
 (Cy:MF K Aa "slot_for" "Sheets.slot_for" jU)
 (E3:PySem.W.excIn K A4 qL "ValueError.__new__"=true)
 (Gh:GF K "law" KR)
 :∃A:mI,bG K mg A:=⟨⟨Ac,Ad,Aa,Ba,A4⟩,PySem.W.mg_none_of X G F8,
  PySem.W.mg_none_of X G Fy,
  PySem.W.mg_none_of X G Eo,
  PySem.W.mg_none_of X G F9,
  PySem.W.mg_none_of X G Ea,
  PySem.W.mg_none_of X G Ga,
  PySem.W.mg_none_of X G Fz,
  PySem.W.mg_none_of X G Gb,
  PySem.W.mg_none_of X G Fc,
  PySem.W.mg_none_of X G E0,
  PySem.W.mg_none_of X G Gc,
  PySem.W.mg_none_of X G Fd,
  F0.raw X G (λ_ _ _ _ _ _=>mJ (λ_ _=>rfl)),
  Fe.raw X G (λ_ _ _ _ _ _=>mJ (λ_ _=>rfl)),
  Ff.raw X G (λ_ _ _ _ _ _=>mJ (λ_ _=>rfl)),
  F1.raw X G (λ_ _ _ _ _ _=>PL (λ_ _ _=>rfl)),
  Fg.raw X G (λ_ _ _ _ _ _=>mJ (λ_ _=>rfl)),
  Ge.raw X G (λ_ _ _ _ _ _=>mJ (λ_ _=>rfl)),
  Fh.raw X G (λ_ _ _ _ _ _=>mJ (λ_ _=>rfl)),
  Ew.raw X G (λ_ _ _ _ _ _=>lJ (λ_=>rfl)),
  E1.raw X G (λ_ _ _ _ _ _=>aa (λ_ _ _ _ _=>rfl)),
  Fj.raw X G (λ_ _ _ _ _ _=>LR (λ_ _ _ _=>rfl)),
  Fk.raw X G (λ_ _ _ _ _ _=>LR (λ_ _ _ _=>rfl)),
  E2.raw X G (λ_ _ _ _ _ _=>mJ (λ_ _=>rfl)),
  F2,
  Du,
  Dg,
  Ep.raw X G Fx (λ_ _ _ _ _ _=>PL (λ_ _ _=>rfl)),
  Bk.raw (λ_ _ _ _ _ _=>lJ (λ_=>rfl)),
  Cu.raw (λ_ _ _ _ _ _=>lJ (λ_=>rfl)),
  F4,
  Dw,
  Dx,
  Er.raw X G Fw (λ_ _ _ _ _ _=>mJ (λ_ _=>rfl)),
  Bs.raw (λ_ _ _ _ _ _=>lJ (λ_=>rfl)),
  B9.raw (λ_ _ _ _ _ _=>lJ (λ_=>rfl)),
  Ca.raw (λ_ _ _ _ _ _=>lJ (λ_=>rfl)),
  Fl,
  Dy,
  Dh,
  Dp,
  Dz,
  Cb,
  Bf,
  Bt,
  Eb.raw X G Fb (λ_ _ _ _ _ _=>LR (λ_ _ _ _=>rfl)),
  D0.raw (λ_ _ _ _ _ _=>LR (λ_ _ _ _=>rfl)),
  Ec.raw (λ_ _ _ _ _ _=>PL (λ_ _ _=>rfl)),
  Ed.raw (λ_ _ _ _ _ _=>PL (λ_ _ _=>rfl)),
  Bu.raw (λ_ _ _ _ _ _=>mJ (λ_ _=>rfl)),
  Cv.raw (λ_ _ _ _ _ _=>mJ (λ_ _=>rfl)),
  Ee.raw (λ_ _ _ _ _ _=>lJ (λ_=>rfl)),
  Bl.raw (λ_ _ _ _ _ _=>lJ (λ_=>rfl)),
  Di.raw (λ_ _ _ _ _ _=>lJ (λ_=>rfl)),
  Dj.raw (λ_ _ _ _ _ _=>lJ (λ_=>rfl)),
  Bm.raw (λ_ _ _ _ _ _=>lJ (λ_=>rfl)),
  Bv.raw (λ_ _ _ _ _ _=>lJ (λ_=>rfl)),
  D1.raw (λ_ _ _ _ _ _=>lJ (λ_=>rfl)),
  Cw.raw (λ_ _ _ _ _ _=>mJ (λ_ _=>rfl)),
  Cc.raw (λ_ _ _ _ _ _=>lJ (λ_=>rfl)),
  Cd.raw (λ_ _ _ _ _ _=>mJ (λ_ _=>rfl)),
  Ce.raw (λ_ _ _ _ _ _=>PL (λ_ _ _=>rfl)),
  Bw.raw (λ_ _ _ _ _ _=>mJ (λ_ _=>rfl)),
  Cf.raw (λ_ _ _ _ _ _=>mJ (λ_ _=>rfl)),
  Cg.raw (λ_ _ _ _ _ _=>PL (λ_ _ _=>rfl)),
  Dk.raw (λ_ _ _ _ _ _=>PL (λ_ _ _=>rfl)),
  Cy.raw (λ_ _ _ _ _ _=>PL (λ_ _ _=>rfl)),
  ⟨_,PySem.W.mg_of X G En,rfl⟩,
  ⟨_,PySem.W.mg_of X G Em,rfl⟩,
  ⟨PySem.W.mg_of X G Em,E3⟩,
  Gh.law X G λ_ _ _ _ _ _ _=>rfl⟩
section
variable {P:Program} {w:World} {K:PySem.W.Frag} {mg:Str->Option Value} {base:Heap} {A:mI}
theorem pH {H H':Hp} {t:Addr} {o:HO} (s:vE H H') (h:H t=none):vE H (upd H' t o):=λb u e=>by
 rw[AE (NF e h)];exact s b u e
theorem cG {H H':Hp} {p:Addr} (s:vE H H') (h:H' p=none):H p=none:=by
 cases e:H p with
 |none=>rfl
 |some o=>rw[s p o e] at h;cases h
noncomputable def ca (K:PySem.W.Frag) (a:Addr) (ns:List Int):Sp:=λvs H Q _=>∃(k:Int),vs=[.ref a,.int k]/\xE K H a (ns.map V.int)/\0<=k/\Q (.int (ns.getD k.toNat 0)) H
theorem d0 (T:bG K mg A) (a:Addr) (ns:List Int):XG P w K mg base "_law_cell" 1 ["_law_script","_law_k"] [] (ca K a ns):=by
 refine T.E5.have Y9 (λvs H Q E z=>?_) ?_
 ·obtain⟨k,rfl,_⟩:=z;rfl
 ·intro f cdv A' outer s H vs Q E hr z
  obtain⟨k,rfl,hs,hk,q⟩:=z
  refine⟨_,(iF (VF (BF YQ (pE 1) (QF MG rfl T.Aj PySem.boot_len (sE (pE 0) zE)) (uE _)) (ME (KF (IE eF (pE 0) (pE 1) (λ_ _=>rfl)))) mG)
   (ME (KF EE))),?_⟩
  walk_at "wp"
  refine⟨ns.length,.inl ⟨_,hs,by simp⟩,?_⟩
  by_cases c:k < (ns.length:Int)
  ·rw[iA c]
   refine⟨_,hs,.int (ns.getD k.toNat 0),?_,q⟩
   have hlt:k.toNat < ns.length:=by omega
   have e:jJ (ns.map V.int) ((k.toNat:Nat):Int)=some (.int (ns.getD k.toNat 0)):=HE (by simp[hlt])
   rw[show ((k.toNat:Nat):Int)=k by omega] at e
   exact e
  ·rw[fA c]
   have hge:ns.length<=k.toNat:=by omega
   rw[show ns.getD k.toNat 0=0 by simp[List.getD,hge]] at q
   exact q
noncomputable def da:V->Bool
 |.non=>true
 |.bl _=>true
 |.int _=>true
 |.str _=>true
 |_=>false
mutual
noncomputable def SF (H:Hp):Dv->V->Prop
 |.leaf v,x=>x=v/\da v=true
 |.seq t ds,x=>∃a xs,x=.ref a/\H a=some (if t=true then .tup xs else .lst xs)/\ds.length < 16777216/\QE H ds xs
noncomputable def QE (H:Hp):List Dv->List V->Prop
 |[],xs=>xs=[]
 |d::ds,xs=>∃x r,xs=x::r/\SF H d x/\QE H ds r
end
theorem QE.len {H:Hp}:∀{ds:List Dv} {xs:List V},QE H ds xs->xs.length=ds.length
 |[],xs,h=>by unfold QE at h;subst h;rfl
 |d::ds,xs,h=>by
  unfold QE at h
  obtain⟨x,r,rfl,_,h⟩:=h
  simp[h.len]
theorem QE.at {H:Hp}:∀{ds:List Dv} {xs:List V} {i:Nat} {d:Dv},QE H ds xs->ds[i]?=some d->∃x,xs[i]?=some x/\SF H d x
 |[],_,_,_,_,h=>by simp at h
 |d::ds,xs,0,e,h,hi=>by
  unfold QE at h
  obtain⟨x,r,rfl,hx,_⟩:=h
  simp at hi
  subst hi
  exact⟨x,rfl,hx⟩
 |d::ds,xs,i+1,e,h,hi=>by
  unfold QE at h
  obtain⟨x,r,rfl,_,h⟩:=h
  simp at hi
  obtain⟨y,hy,hl⟩:=h.at hi
  exact⟨y,by simpa using hy,hl⟩
theorem i0:∀{ds:List Dv} {i:Nat} {d:Dv},ds[i]?=some d->vF d<=GE ds
 |[],_,_,h=>by simp at h
 |d::ds,0,e,h=>by
  simp at h
  subst h
  rw[GE];exact Nat.le_max_left ..
 |d::ds,i+1,e,h=>by
  simp at h
  rw[GE];exact EB (i0 h) (Nat.le_max_right ..)
mutual
theorem SF.same {H H':Hp}:∀{d:Dv} {x:V},SF H d x->vE H H'->SF H' d x
 |.leaf v,x,h,_=>by unfold SF at h ⊢;exact h
 |.seq t ds,x,h,s=>by
  unfold SF at h ⊢
  obtain⟨a,xs,e,ha,hz,hl⟩:=h
  exact⟨a,xs,e,s _ _ ha,hz,hl.same s⟩
theorem QE.same {H H':Hp}:∀{ds:List Dv} {xs:List V},QE H ds xs->vE H H'->QE H' ds xs
 |[],xs,h,_=>by unfold QE at h ⊢;exact h
 |d::ds,xs,h,s=>by
  unfold QE at h ⊢
  obtain⟨x,r,e,hx,hl⟩:=h
  exact⟨x,r,e,hx.same s,hl.same s⟩
end
noncomputable def o0:Nat->Sp
 |0=>λ_ _ _ _=>False
 |n+1=>λvs H Q _=>∃(x y:V) (d:Dv),vs=[x,y]/\SF H d x/\SF H d y/\vF d<=n/\∀H',vE H H'->Q (.bl true) H'
theorem QL {H:Hp} {a:Addr} {o:HO} {n:String} (h:H a=some o) (e:(rH (some o) == n || (rH (some o) == "bool"&&n == "int"))=false):YI n H (.ref a)=false:=by
 unfold YI
 rw[show kd H (.ref a)=rH (H a) from rfl,h];exact e
theorem p0 (T:bG K mg A):∀n,XG P w K mg base "_law_like" (n+1) ["_law_found","_law_due"] [] (o0 n):=by
 intro n
 induction n with
 |zero=>exact T.Ej.have nU (λvs H Q E z=>z.elim) (λ_ _ _ _ _ _ _ _ _ _ z=>z.elim)
 |succ n ih=>
  have A8:=ih
  refine T.Ej.have nU (λvs H Q E z=>?_) ?_
  ·obtain⟨x,y,d,rfl,_⟩:=z;rfl
  ·intro f cdv A' outer s H vs Q E hr z
   obtain⟨x,y,d,rfl,hx,hy,hd,q⟩:=z
   refine⟨_,(iF (VF (BF bI (pE 1) wF (uE _)) (ME (KF (AM bI (pE 0) wF (uE _)))) mG)
   (iF (VF (pI (QF XJ rfl T.Al RA (sE (pE 1) (sE (VJ (n:="bool") rfl T.Ei sD) zE)))) (ME (KF (TQ (QF XJ rfl T.Al RA (sE (pE 0) (sE (VJ (n:="bool") rfl T.Ei sD) zE))) (qS (AM OI (pE 0) (pE 1) (uE _)))))) mG)
   (iF (VF (pI (QF XJ rfl T.Al RA (sE (pE 1) (sE (VJ (n:="int") rfl T.Fp PyProof.Rows.boot_int) zE)))) (ME (KF (TQ (QF XJ rfl T.Al RA (sE (pE 0) (sE (VJ (n:="int") rfl T.Fp PyProof.Rows.boot_int) zE))) (TQ (uM (QF XJ rfl T.Al RA (sE (pE 0) (sE (VJ (n:="bool") rfl T.Ei sD) zE)))) (qS (AM OI (pE 0) (pE 1) (uE _))))))) mG)
   (iF (VF (pI (QF XJ rfl T.Al RA (sE (pE 1) (sE (VJ (n:="str") rfl T.Ft PyProof.Rows.boot_str) zE)))) (ME (KF (TQ (QF XJ rfl T.Al RA (sE (pE 0) (sE (VJ (n:="str") rfl T.Ft PyProof.Rows.boot_str) zE))) (qS (AM OI (pE 0) (pE 1) (uE _)))))) mG)
   (zF (VF (PW.pt (hJ (pI (QF XJ rfl T.Al RA (sE (pE 1) (sE (VJ (n:="list") rfl T.Bd FB) zE)))) (gJ (uK (pI (QF XJ rfl T.Al RA (sE (pE 0) (sE (VJ (n:="list") rfl T.Bd FB) zE)))))))) (ME (KF tK)) mG)
   (zF (VF (PW.pt (hJ (pI (QF XJ rfl T.Al RA (sE (pE 1) (sE (VJ (n:="tuple") rfl T.Dq lD) zE)))) (gJ (uK (pI (QF XJ rfl T.Al RA (sE (pE 0) (sE (VJ (n:="tuple") rfl T.Dq lD) zE)))))))) (ME (KF tK)) mG)
   (iF (VF (BF vS (QF MG rfl T.Aj PySem.boot_len (sE (pE 0) zE)) (QF MG rfl T.Aj PySem.boot_len (sE (pE 1) zE)) (uE _)) (ME (KF tK)) mG)
   (iF (GJ jB rfl (iJ rfl T.Ao (sE (QF MG rfl T.Aj PySem.boot_len (sE (pE 1) zE)) zE)) (KG (i:=2) nU.nd rfl (Or.inl rfl)) (ME (VF (uK (pI (DG A8 (hr.mono (by omega)) nF (sE (IE dZ (pE 0) (pE 2) (λ_ _=>rfl)) (sE (IE dZ (pE 1) (pE 2) (λ_ _=>rfl)) zE))))) (ME (KF tK)) mG)))
   (ME (KF tK)))))))))),?_⟩
   cases d with
   |leaf v=>
    unfold SF at hx hy
    obtain⟨ex,hv⟩:=hx
    obtain⟨ey,_⟩:=hy
    subst ex
    subst ey
    cases y with
    |non=>
     walk_at "wp"
     exact q _ sF
    |bl b=>
     walk_at "wp"
     rw[fA (λz=>nomatch z)]
     exact⟨by decide,oG ⟨by decide,oG (q _ sF)⟩⟩
    |int i=>
     walk_at "wp"
     rw[fA (λz=>nomatch z)]
     exact⟨by decide,gF ⟨by decide,oG ⟨by decide,oG ⟨by decide,oG (q _ sF)⟩⟩⟩⟩
    |str t=>
     walk_at "wp"
     rw[fA (λz=>nomatch z)]
     exact⟨by decide,gF ⟨by decide,gF ⟨by decide,oG ⟨by decide,oG (q _ sF)⟩⟩⟩⟩
    |_=>cases hv
   |seq t ds=>
    unfold SF at hx hy
    obtain⟨a,xs,rfl,ha,hzl,hxs⟩:=hx
    obtain⟨b,ys,rfl,hb,_,hys⟩:=hy
    have hlx:=hxs.len
    have hly:=hys.len
    have hdl:GE ds+1<=n:=by rw[vF] at hd;exact hd
    have step:∀(i:Nat) (H':Hp) (Q':VK) (E':XK),i < ds.length->vE H H'->(∀H'',vE H H''->Q' (.bl true) H'')->∃x y,xs[i]?=some x/\ys[i]?=some y/\o0 n [x,y] H' Q' E':=λi H' Q' E' hi s1 hq=>by
     obtain⟨x,hx1,hx2⟩:=hxs.at (bA hi)
     obtain⟨y,hy1,hy2⟩:=hys.at (bA hi)
     refine⟨x,y,hx1,hy1,?_⟩
     cases n with
     |zero=>omega
     |succ n=>exact⟨x,y,ds[i],rfl,hx2.same s1,hy2.same s1,by have:=i0 (bA hi);omega,λH'' s2=>hq _ (s1.trans s2)⟩
    walk_at "wp"
    rw[fA (λz=>nomatch z)]
    cases t with
    |false=>
     have ha:H a=some (.lst xs):=ha
     have hb:H b=some (.lst ys):=hb
     rw[QL hb rfl,QL hb rfl,QL hb rfl]
     refine⟨by decide,mO hb,gF ⟨by decide,mO hb,gF ⟨by decide,mO hb,gF ⟨λσ H'=>σ=[some (.ref a),some (.ref b),none]/\H'=H,?_,λσ' H'=>?_⟩⟩⟩⟩
     ·walk_at "wp"
      rw[KY hb,KY ha]
      exact⟨by decide,mO hb,oG ⟨by decide,mO ha,gF trivial⟩⟩
     rintro⟨rfl,rfl⟩
     refine⟨λσ H''=>σ=[some (.ref a),some (.ref b),none]/\H''=H',?_,λσ' H''=>?_⟩
     ·walk_at "wp"
      rw[QL hb rfl]
      exact⟨by decide,mO hb,gF (gF trivial)⟩
     rintro⟨rfl,rfl⟩
     walk_at "wp"
     refine⟨_,.inl ⟨_,xE.of ha,rfl⟩,_,.inl ⟨_,xE.of hb,rfl⟩,?_⟩
     rw[AA (by omega)]
     refine gF ⟨_,.inl ⟨_,xE.of hb,rfl⟩,by omega,by omega,?_⟩
     refine oO (λi σ H1=>∃v2,σ=[some (.ref a),some (.ref b),v2]/\vE H'' H1) ⟨_,rfl,sF⟩ (λi σ H1 hi=>?_) (λσ H1=>?_)
     ·rintro⟨v2,rfl,s1⟩
      walk_at "wp"
      obtain⟨x,y,hx1,hy1,hsp⟩:=step i H1 (λx H2=>∃c,x=V.bl c/\if (!c)=true then Q (V.bl false) H2 else vE H'' H2) (λc x H'=>E c none H') (by omega) s1 (λH'' s2=>⟨true,rfl,gF s2⟩)
      exact .inl ⟨_,xE.of (s1 _ _ ha),x,by rw[zB];exact HE hx1,.inl ⟨_,xE.of (s1 _ _ hb),y,by rw[zB];exact HE hy1,hsp⟩⟩
     ·rintro⟨v2,rfl,s1⟩
      walk_at "wp"
      exact q _ s1
    |true=>
     have ha:H a=some (.tup xs):=ha
     have hb:H b=some (.tup ys):=hb
     rw[QL hb rfl,QL hb rfl,QL hb rfl]
     refine⟨by decide,nO hb,gF ⟨by decide,nO hb,gF ⟨by decide,nO hb,gF ⟨λσ H'=>σ=[some (.ref a),some (.ref b),none]/\H'=H,?_,λσ' H'=>?_⟩⟩⟩⟩
     ·walk_at "wp"
      rw[QL hb rfl]
      exact⟨by decide,nO hb,gF (gF trivial)⟩
     rintro⟨rfl,rfl⟩
     refine⟨λσ H''=>σ=[some (.ref a),some (.ref b),none]/\H''=H',?_,λσ' H''=>?_⟩
     ·walk_at "wp"
      rw[JY hb,JY ha]
      exact⟨by decide,nO hb,oG ⟨by decide,nO ha,gF trivial⟩⟩
     rintro⟨rfl,rfl⟩
     walk_at "wp"
     refine⟨_,.inr ⟨_,oF.of ha,rfl⟩,_,.inr ⟨_,oF.of hb,rfl⟩,?_⟩
     rw[AA (by omega)]
     refine gF ⟨_,.inr ⟨_,oF.of hb,rfl⟩,by omega,by omega,?_⟩
     refine oO (λi σ H1=>∃v2,σ=[some (.ref a),some (.ref b),v2]/\vE H'' H1) ⟨_,rfl,sF⟩ (λi σ H1 hi=>?_) (λσ H1=>?_)
     ·rintro⟨v2,rfl,s1⟩
      walk_at "wp"
      obtain⟨x,y,hx1,hy1,hsp⟩:=step i H1 (λx H2=>∃c,x=V.bl c/\if (!c)=true then Q (V.bl false) H2 else vE H'' H2) (λc x H'=>E c none H') (by omega) s1 (λH'' s2=>⟨true,rfl,gF s2⟩)
      exact .inr ⟨_,oF.of (s1 _ _ ha),x,by rw[zB];exact HE hx1,.inr ⟨_,oF.of (s1 _ _ hb),y,by rw[zB];exact HE hy1,hsp⟩⟩
     ·rintro⟨v2,rfl,s1⟩
      walk_at "wp"
      exact q _ s1
noncomputable def rg (n:Nat) (h:Int) (j:Nat):List Int:=(List.range j).map λ(i:Nat)=>(h+(i:Int)) % (n:Int)
theorem MR {n j:Nat} {h:Int}:(rg n h j).length=j:=by unfold rg;rw[lA,ZA]
theorem u0 {n j:Nat} {h:Int}:rg n h (j+1)=rg n h j++[(h+j) % (n:Int)]:=by unfold rg;rw[lE,aB];rfl
noncomputable def aQ (K:PySem.W.Frag):Sp:=λvs H Q _=>∃(m:Addr) (h:Int) (bs:List Bool),vs=[.ref m,.int h]/\xE K H m (bs.map V.bl)/\0<=h/\h < bs.length/\bs.length<=2000/\
 ∀(t u:Addr) (j:Nat) H',vE H H'->H t=none->H u=none->j<=bs.length->(∀i < j,bs.getD ((h+i) % (bs.length:Int)).toNat false=true)->(j=bs.length\/bs.getD ((h+j) % (bs.length:Int)).toNat false=false)->
  H' t=some (.tup [.int ((h+j) % (bs.length:Int)),.ref u])->H' u=some (.lst ((rg bs.length h j).map V.int))->Q (.ref t) H'
theorem yU (T:bG K mg A):XG P w K mg base "swept" 1 ["marks","hand"] [] (aQ K):=by
 refine T.Fu.have IR (λvs H Q E z=>?_) ?_
 ·obtain⟨m,h,bs,rfl,_⟩:=z;rfl
 ·intro f cdv A' outer s H vs Q E hr z
  obtain⟨m,h,bs,rfl,hm,h0,h1,h2,q⟩:=z
  refine⟨_,(iF (xF (i:=2) IR.nd rfl (Or.inl rfl) (lH zE))
   (iF (xF (i:=3) IR.nd rfl (Or.inl rfl) (pE 1))
   (iF (ZY jB (PW.pt (hJ (BF YQ (QF MG rfl T.Aj PySem.boot_len (sE (pE 2) zE)) (QF MG rfl T.Aj PySem.boot_len (sE (pE 0) zE)) (uE _)) (gJ (pI (IE eF (pE 0) (pE 3) (λ_ _=>rfl)))))) (iF (qH (PJ PySem.F.plainAttrs_list PySem.F.slot_list_append PySem.F.type_list_append QJ (pE 2) (sE (pE 3) zE)))
   (ME (xF (i:=3) IR.nd rfl (Or.inl rfl) (jF VG (jF PH (pE 3) EE) (QF MG rfl T.Aj PySem.boot_len (sE (pE 0) zE)))))))
   (ME (KF (mH (sE (pE 3) (sE (pE 2) zE)))))))),?_⟩
  walk_at "wp"
  intro u hu
  refine aZ (λmm σ H'=>∃j:Nat,mm=bs.length - j/\j<=bs.length/\σ=[some (.ref m),some (.int h),some (.ref u),some (.int ((h+j) % (bs.length:Int)))]/\vE H H'/\H' u=some (.lst ((rg bs.length h j).map V.int))/\(∀i < j,bs.getD ((h+i) % (bs.length:Int)).toNat false=true)) bs.length ⟨0,rfl,fC _,?_,WF sF hu,bF,λi hi=>absurd hi (xC _)⟩ (λmm σ H'=>?_)
  ·rw[show (h+((0:Nat):Int)) % (bs.length:Int)=h by rw[Int.emod_eq_of_lt]<;>omega]
  ·rintro⟨j,rfl,hj,rfl,sm,hu',hall⟩
   walk_at "wp"
   refine⟨j,.inl ⟨_,xE.of hu',by rw[lA,MR]⟩,bs.length,.inl ⟨_,sm.seq hm,by simp⟩,?_⟩
   have hpos:(0:Int) < bs.length:=by omega
   have hp0:=vC (h+j) (show (bs.length:Int)≠0 by omega)
   have hp1:=EC (h+j) hpos
   have hat:jJ (bs.map V.bl) ((h+j) % (bs.length:Int))=some (.bl (bs.getD ((h+j) % (bs.length:Int)).toNat false)):=by
    generalize (h+j) % (bs.length:Int)=p at *
    have e:=HE (xs:=bs.map V.bl) (j:=p.toNat) (v:=.bl (bs.getD p.toNat false)) (by
     have:p.toNat < bs.length:=by omega
     simp[this])
    rw[show ((p.toNat:Nat):Int)=p by omega] at e
    exact e
   by_cases c:(j:Int) < bs.length
   ·rw[iA c]
    refine⟨_,sm.seq hm,_,hat,_,rfl,?_⟩
    cases hb:bs.getD ((h+j) % (bs.length:Int)).toNat false with
    |true=>
     refine oG (yL ?_)
     walk_at "wp"
     refine⟨.inl ⟨rfl,_,xE.of hu'⟩,_,hu',by rw[lA,MR];omega,bs.length,.inl ⟨_,(pH sm hu).seq hm,by simp⟩,hpos,bs.length - (j+1),by omega,j+1,rfl,by omega,?_,pH sm hu,?_,λi hi=>?_⟩
     ·rw[Int.emod_add_emod]
      congr 1
      omega
     ·rw[u0,aB];rfl
     ·rcases (by omega:i < j\/i=j) with hi|rfl
      ·exact hall i hi
      ·exact hb
    |false=>
     refine gF λt ht=>?_
     exact q t u j _ (WF sm ht) (cG sm ht) hu hj hall (.inr hb) bF (by rw[AE (NF hu' ht)];exact hu')
   ·rw[fA c]
    refine gF λt ht=>?_
    exact q t u j _ (WF sm ht) (cG sm ht) hu hj hall (.inl (by omega)) bF (by rw[AE (NF hu' ht)];exact hu')
theorem BI {α β:Type} {F:α->β->Prop}:∀{xs:List α} {ys:List β} {i:Nat} {x:α},Paired F xs ys->xs[i]?=some x->∃y,ys[i]?=some y/\F x y
 |_,_,_,_,.nil,e=>by simp at e
 |_,_,0,_,.cons r _,e=>by simp at e;subst e;exact⟨_,rfl,r⟩
 |_,_,i+1,x,.cons _ t,e=>by
  obtain⟨u,h1,h2⟩:=BI (i:=i) (x:=x) t (by simpa using e)
  exact⟨u,by simpa using h1,h2⟩
theorem BJ {α β:Type} {F:α->β->Prop}:∀{xs:List α} {ys:List β} {i:Nat} {y:β},Paired F xs ys->ys[i]?=some y->∃x,xs[i]?=some x/\F x y
 |_,_,_,_,.nil,e=>by simp at e
 |_,_,0,_,.cons r _,e=>by simp at e;subst e;exact⟨_,rfl,r⟩
 |_,_,i+1,y,.cons _ t,e=>by
  obtain⟨u,h1,h2⟩:=BJ (i:=i) (y:=y) t (by simpa using e)
  exact⟨u,by simpa using h1,h2⟩
theorem mK {α β:Type} {F:α->β->Prop} {x:α} {y:β} (hxy:F x y):∀{xs:List α} {ys:List β} (i:Nat),Paired F xs ys->Paired F (xs.set i x) (ys.set i y)
 |_,_,_,.nil=>.nil
 |_,_,0,.cons _ t=>.cons hxy t
 |_,_,i+1,.cons r t=>.cons r (mK hxy i t)
structure Sh where
 b:List Int
 ks:List (List Key)
 sh:Addr
 bx:Addr
 hd:Addr
noncomputable def Kp (ex:List Addr) (H H':Hp):Prop:=∀c o,H c=some o->c∉ex->H' c=some o
noncomputable def wO (bx hd:Addr):List (Str×V):=LE "holders" (.ref hd) (LE "boxes" (.ref bx) [])
theorem NR {bx hd:Addr}:(wO bx hd).lookup ("boxes":Str)=some (.ref bx):=by rfl
theorem zU {bx hd:Addr}:(wO bx hd).lookup ("holders":Str)=some (.ref hd):=by rfl
theorem RL {bx hd:Addr} {m:Str} (h:¬m∈(["boxes","holders"]:List Str)):(wO bx hd).lookup m=none:=by
 simp only[xA,lB,RD,not_or] at h
 unfold wO
 simp only[iP,h.1,h.2,HB]
 rfl
noncomputable def SL (ly tw:Addr):List (Str×V):=LE "twins" (.ref tw) (LE "lying" (.ref ly) [])
theorem AH {ly tw:Addr}:(SL ly tw).lookup ("lying":Str)=some (.ref ly):=by rfl
theorem KI {ly tw:Addr}:(SL ly tw).lookup ("twins":Str)=some (.ref tw):=by rfl
theorem xO {ly tw:Addr} {m:Str} (h:¬m∈(["lying","twins"]:List Str)):(SL ly tw).lookup m=none:=by
 simp only[xA,lB,RD,not_or] at h
 unfold SL
 simp only[iP,h.1,h.2,HB]
 rfl
structure St where
 fr:List (Option Sh)
 sr:List (Option Sh)
 h:Nat
 go:Int
 ga:Int
 cb:Int
 tf:List (Option Nat)
 ts:List (Option Nat)
noncomputable def gH (n:Int) (fp sq:Addr) (s:St):List (Str×V):=LE "come_back" (.int s.cb) (LE "gone_astray" (.int s.ga) (LE "gone_out" (.int s.go) (LE "hand" (.int s.h) (LE "slots" (.ref sq) (LE "frames" (.ref fp) (LE "size" (.int n) []))))))
section
variable {n:Int} {fp sq:Addr} {s:St}
theorem LH:(gH n fp sq s).lookup ("frames":Str)=some (.ref fp):=by rfl
theorem qI:(gH n fp sq s).lookup ("slots":Str)=some (.ref sq):=by rfl
theorem bQ:(gH n fp sq s).lookup ("hand":Str)=some (.int s.h):=by rfl
theorem x0:(gH n fp sq s).lookup ("gone_out":Str)=some (.int s.go):=by rfl
theorem I0:(gH n fp sq s).lookup ("gone_astray":Str)=some (.int s.ga):=by rfl
theorem K0:(gH n fp sq s).lookup ("come_back":Str)=some (.int s.cb):=by rfl
theorem UG {m:Str} (h:¬m∈(["size","frames","slots","hand","gone_out","gone_astray","come_back"]:List Str)):(gH n fp sq s).lookup m=none:=by
 simp only[xA,lB,RD,not_or] at h
 obtain⟨a1,a2,a3,a4,a5,a6,a7⟩:=h
 unfold gH
 simp only[iP,a1,a2,a3,a4,a5,a6,a7,HB]
 rfl
theorem sN {h:Nat}:LE "hand" (.int (h:Int)) (gH n fp sq s)=gH n fp sq {s with h:=h}:=by rfl
theorem tN {x:Int}:LE "gone_out" (.int x) (gH n fp sq s)=gH n fp sq {s with go:=x}:=by rfl
theorem uN {x:Int}:LE "gone_astray" (.int x) (gH n fp sq s)=gH n fp sq {s with ga:=x}:=by rfl
theorem vN {x:Int}:LE "come_back" (.int x) (gH n fp sq s)=gH n fp sq {s with cb:=x}:=by rfl
end
noncomputable def iH (ks:List (List Key)):List (List Key×V):=ks.map λk=>(k,V.bl true)
noncomputable def lF (C:Addr) (H:Hp) (v:V):Option Sh->Prop
 |none=>v=.non
 |some r=>v=.ref r.sh/\(∃dx,H r.sh=some (.ins C dx (wO r.bx r.hd)))/\H r.bx=some (.lst (r.b.map V.int))/\H r.hd=some (.dT (iH r.ks))
noncomputable abbrev lG (C:Addr) (H:Hp):List V->List (Option Sh)->Prop:=Paired (lF C H)
theorem lF.same {C:Addr} {H H':Hp} (s:vE H H') {v:V}:∀{r:Option Sh},lF C H v r->lF C H' v r
 |none,h=>h
 |some _,⟨e,⟨dx,h1⟩,h2,h3⟩=>⟨e,⟨dx,s _ _ h1⟩,s _ _ h2,s _ _ h3⟩
theorem lG.same {C:Addr} {H H':Hp} (s:vE H H') {vs:List V} {rs:List (Option Sh)} (h:lG C H vs rs):lG C H' vs rs:=Paired.mapP h λ_ _ q=>q.same s
noncomputable def oV:Option Nat->V
 |none=>.non
 |some j=>.int (j:Int)
noncomputable def CI (C S:Addr) (H:Hp) (p ly tw:Addr) (rows:List (Option Sh)) (tws:List (Option Nat)):Prop:=∃dx vs,H p=some (.ins C dx (SL ly tw))/\H ly=some (.lst vs)/\lG S H vs rows/\H tw=some (.lst (tws.map oV))/\tws.length=rows.length
theorem CI.same {C S:Addr} {H H':Hp} {p ly tw:Addr} {rows:List (Option Sh)} {tws:List (Option Nat)} (h:CI C S H p ly tw rows tws) (s:vE H H'):CI C S H' p ly tw rows tws:=let ⟨dx,vs,h1,h2,h3,h4,h5⟩:=h;⟨dx,vs,s _ _ h1,s _ _ h2,h3.same s,s _ _ h4,h5⟩
structure Ss where
 p:Addr
 fp:Addr
 ly:Addr
 tw:Addr
 sq:Addr
 ls:Addr
 ts:Addr
 n:Int
noncomputable def Ss.four (z:Ss):List Addr:=[z.ly,z.tw,z.ls,z.ts]
noncomputable def Ks (z:Ss) (H H':Hp):Prop:=∀c o,H c=some o->c≠z.p->c∉z.four->H' c=some o
theorem Ks.trans {z:Ss} {H H1 H2:Hp} (a:Ks z H H1) (b:Ks z H1 H2):Ks z H H2:=λc o h h1 h2=>b c o (a c o h h1 h2) h1 h2
theorem Ks.of {z:Ss} {H H':Hp} (s:vE H H'):Ks z H H':=λc o h _ _=>s c o h
noncomputable def Kd (z:Ss) (H H':Hp):Prop:=∀c o,H c=some o->c≠z.p->c∉z.four->(∀kvs,o≠.dT kvs)->H' c=some o
theorem Kd.trans {z:Ss} {H H1 H2:Hp} (a:Kd z H H1) (b:Kd z H1 H2):Kd z H H2:=λc o h h1 h2 h3=>b c o (a c o h h1 h2 h3) h1 h2 h3
theorem Ks.kd {z:Ss} {H H':Hp} (s:Ks z H H'):Kd z H H':=λc o h h1 h2 _=>s c o h h1 h2
theorem Kd.of {z:Ss} {H H':Hp} (s:vE H H'):Kd z H H':=λc o h _ _ _=>s c o h
noncomputable def iG (rows:List (Option Sh)):List Addr:=rows.filterMap λr=>r.map Sh.hd
structure yE (C P S:Addr) (H:Hp) (z:Ss) (s:St):Prop where
 me:∃dx,H z.p=some (.ins C dx (gH z.n z.fp z.sq s))
 fr:CI P S H z.fp z.ly z.tw s.fr s.tf
 sl:CI P S H z.sq z.ls z.ts s.sr s.ts
 n4:z.four.Nodup
 bx:∀r,some r∈s.fr\/some r∈s.sr->r.bx∉z.four
 len:s.fr.length<=640/\s.sr.length<=640
 hh:s.h < s.fr.length
theorem yE.same {C P S:Addr} {H H':Hp} {z:Ss} {s:St} (h:yE C P S H z s) (e:vE H H'):yE C P S H' z s:=
 ⟨let ⟨dx,q⟩:=h.me;⟨dx,e _ _ q⟩,h.fr.same e,h.sl.same e,h.n4,h.bx,h.len,h.hh⟩
theorem yE.fours {C P S:Addr} {H:Hp} {z:Ss} {s:St} (h:yE C P S H z s):∀c∈z.four,∃us,H c=some (.lst us):=λc hc=>by
 obtain⟨_,_,_,f2,_,f4,_⟩:=id h.fr
 obtain⟨_,_,_,g2,_,g4,_⟩:=id h.sl
 unfold Ss.four at hc
 simp only[xA,lB,RD] at hc
 rcases hc with rfl|rfl|rfl|rfl
 ·exact⟨_,f2⟩
 ·exact⟨_,f4⟩
 ·exact⟨_,g2⟩
 ·exact⟨_,g4⟩
theorem yE.nf {C P S:Addr} {H:Hp} {z:Ss} {s:St} (h:yE C P S H z s) {e:Addr} (he:H e=none):e∉z.four:=λz9=>by obtain⟨us,h⟩:=h.fours _ z9;rw[he] at h;cases h
noncomputable def Ap (s:St):Prop:=(iG (s.fr++s.sr)).Nodup
noncomputable def St.rw (s:St) (f:Bool):List (Option Sh):=if f=true then s.fr else s.sr
noncomputable def St.put (s:St) (f:Bool) (j:Nat) (r:Option Sh):St:=if f=true then {s with fr:=s.fr.set j r} else {s with sr:=s.sr.set j r}
noncomputable def Ss.la (z:Ss) (f:Bool):Addr:=if f=true then z.ly else z.ls
noncomputable def BH (f:Bool):Str:=if f=true then Str.ofString "frame" else Str.ofString "slot"
theorem IJ {z:Ss} {f:Bool}:z.la f∈z.four:=by cases f<;>simp[Ss.la,Ss.four]
theorem yE.row {C P S:Addr} {H:Hp} {z:Ss} {s:St} (h:yE C P S H z s) (f:Bool):∃vs,H (z.la f)=some (.lst vs)/\lG S H vs (s.rw f):=by
 cases f with
 |true=>obtain⟨_,vs,_,h2,h3,_⟩:=h.fr;exact⟨vs,h2,h3⟩
 |false=>obtain⟨_,vs,_,h2,h3,_⟩:=h.sl;exact⟨vs,h2,h3⟩
theorem yO {S a:Addr} {H:Hp} {us:List V} {o:HO} (hl:H a=some (.lst us)) {v:V}:∀{r:Option Sh},lF S H v r->(∀q,r=some q->q.bx≠a)->lF S (upd H a o) v r
 |none,h,_=>h
 |some r,⟨e,⟨dx,h1⟩,h2,h3⟩,hb=>⟨e,⟨dx,by rw[AE (qG h1 hl (λz=>nomatch z))];exact h1⟩,by rw[AE (hb r rfl)];exact h2,by rw[AE (qG h3 hl (λz=>nomatch z))];exact h3⟩
theorem xK {S a:Addr} {H:Hp} {us:List V} {o:HO} (hl:H a=some (.lst us)) {vs:List V} {rows:List (Option Sh)} (h:lG S H vs rows) (hb:∀r,some r∈rows->r.bx≠a):lG S (upd H a o) vs rows:=by
 induction h with
 |nil=>exact .nil
 |@cons x y _ _ h t ih=>exact .cons (yO hl h λq e=>hb q (by rw[e];exact wA ..)) (ih λr hr=>hb r (jA _ hr))
theorem OR {s:St} {f:Bool} {j:Nat} {r:Option Sh} {q:Sh} (h:some q∈(s.put f j r).fr\/some q∈(s.put f j r).sr):some q=r\/some q∈s.fr\/some q∈s.sr:=by
 cases f with
 |true=>
  rcases h with h|h
  ·rcases sC (show some q∈s.fr.set j r from h) with h|h
   ·exact .inr (.inl h)
   ·exact .inl h
  ·exact .inr (.inr h)
 |false=>
  rcases h with h|h
  ·exact .inr (.inl h)
  ·rcases sC (show some q∈s.sr.set j r from h) with h|h
   ·exact .inr (.inr h)
   ·exact .inl h
theorem yE.set {C P S:Addr} {H:Hp} {z:Ss} {s:St} {f:Bool} {vs:List V} {v:V} {r:Option Sh} {j:Nat} (h:yE C P S H z s) (hl:H (z.la f)=some (.lst vs)) (hv:lF S H v r) (hb:∀q,r=some q->q.bx∉z.four):yE C P S (upd H (z.la f) (.lst (vs.set j v))) z (s.put f j r):=by
 obtain⟨dx,h1⟩:=h.me
 obtain⟨dx1,vs1,f1,f2,f3,f4,f5⟩:=id h.fr
 obtain⟨dx2,vs2,g1,g2,g3,g4,g5⟩:=id h.sl
 have n4:=h.n4
 unfold Ss.four at n4
 simp only[gB,xA,lB,RD,not_or,YD,lC,QD] at n4
 obtain⟨⟨n1,n2,n3⟩,⟨n5,n6⟩,n7⟩:=n4
 have bx:∀q,some q∈s.fr\/some q∈s.sr->q.bx≠z.la f:=λq hq e=>h.bx q hq (by rw[e];exact IJ)
 have hv2:lF S (upd H (z.la f) (.lst (vs.set j v))) v r:=yO hl hv λq e z9=>hb q e (by rw[z9];exact IJ)
 have ni:∀{c D dx fs},H c=some (.ins D dx fs)->upd H (z.la f) (.lst (vs.set j v)) c=some (.ins D dx fs):=λhc=>by rw[AE (qG hc hl (λz=>nomatch z))];exact hc
 have nl:∀{c o},H c=some o->c≠z.la f->upd H (z.la f) (.lst (vs.set j v)) c=some o:=λhc hn=>by rw[AE hn];exact hc
 have bx2:∀q,some q∈(s.put f j r).fr\/some q∈(s.put f j r).sr->q.bx∉z.four:=λq hq=>(OR hq).elim (λe=>hb q e.symm) (h.bx q)
 cases f with
 |true=>
  have e9:vs=vs1:=by rw[show z.la true=z.ly from rfl,f2] at hl;cases hl;rfl
  subst e9
  have f4:=nl f4 (Ne.symm n1)
  rw[<-BA (as:=s.fr) (i:=j) (a:=r)] at f5
  have len:=h.len
  have hh:=h.hh
  rw[<-BA (as:=s.fr) (i:=j) (a:=r)] at len hh
  exact⟨⟨dx,ni h1⟩,⟨dx1,vs.set j v,ni f1,bF,mK hv2 j (xK hl f3 λq hq=>bx q (.inl hq)),f4,f5⟩,⟨dx2,vs2,ni g1,nl g2 (Ne.symm n2),xK hl g3 λq hq=>bx q (.inr hq),nl g4 (Ne.symm n3),g5⟩,h.n4,bx2,len,hh⟩
 |false=>
  have e9:vs=vs2:=by rw[show z.la false=z.ls from rfl,g2] at hl;cases hl;rfl
  subst e9
  have g4:=nl g4 (Ne.symm n7)
  rw[<-BA (as:=s.sr) (i:=j) (a:=r)] at g5
  have len:=h.len
  rw[<-BA (as:=s.sr) (i:=j) (a:=r)] at len
  exact⟨⟨dx,ni h1⟩,⟨dx1,vs1,ni f1,nl f2 n2,xK hl f3 λq hq=>bx q (.inl hq),nl f4 n5,f5⟩,⟨dx2,vs.set j v,ni g1,bF,mK hv2 j (xK hl g3 λq hq=>bx q (.inr hq)),g4,g5⟩,h.n4,bx2,len,h.hh⟩
theorem yE.num {C P S:Addr} {H:Hp} {z:Ss} {s s':St} {dx:Addr} (h:yE C P S H z s) (e:H z.p=some (.ins C dx (gH z.n z.fp z.sq s))) (e1:s'.fr=s.fr) (e2:s'.sr=s.sr) (e3:s'.h < s.fr.length) (e4:s'.tf=s.tf) (e5:s'.ts=s.ts):yE C P S (upd H z.p (.ins C dx (gH z.n z.fp z.sq s'))) z s':=by
 obtain⟨dx1,vs1,f1,f2,f3,f4,f5⟩:=id h.fr
 obtain⟨dx2,vs2,g1,g2,g3,g4,g5⟩:=id h.sl
 have ho:∀{c o},H c=some o->(∀D d fs,o=.ins D d fs->fs.lookup ("hand":Str)=none)->upd H z.p (.ins C dx (gH z.n z.fp z.sq s')) c=some o:=λ{c o} hc hn=>by
  rw[AE (λe9=>?_)]
  ·exact hc
  ·rw[e9,e] at hc
   have:=hn _ _ _ (cA hc).symm
   rw[bQ] at this
   cases this
 have nl:∀{us D d fs},HO.lst us=.ins D d fs->fs.lookup ("hand":Str)=none:=λz=>nomatch z
 have sp:∀{a b D d fs} {Q d2:Addr},HO.ins Q d2 (SL a b)=.ins D d fs->fs.lookup ("hand":Str)=none:=λz=>by cases z;exact xO (by decide+kernel)
 have sh:∀{v:V} {r:Option Sh},lF S H v r->lF S (upd H z.p (.ins C dx (gH z.n z.fp z.sq s'))) v r:=λ{v r} hv=>by
  cases r with
  |none=>exact hv
  |some r=>
   obtain⟨a,⟨d,h1⟩,h2,h3⟩:=hv
   exact⟨a,⟨d,ho h1 λ_ _ _ z=>by cases z;exact RL (by decide+kernel)⟩,ho h2 λ_ _ _ z=>nl z,ho h3 λ_ _ _ z=>nomatch z⟩
 exact⟨⟨dx,bF⟩,⟨dx1,vs1,ho f1 λ_ _ _ z=>sp z,ho f2 λ_ _ _ z=>nl z,by rw[e1];exact Paired.mapP f3 λ_ _ q=>sh q,by rw[e4];exact ho f4 λ_ _ _ z=>nl z,by rw[e1,e4];exact f5⟩,⟨dx2,vs2,ho g1 λ_ _ _ z=>sp z,ho g2 λ_ _ _ z=>nl z,by rw[e2];exact Paired.mapP g3 λ_ _ q=>sh q,by rw[e5];exact ho g4 λ_ _ _ z=>nl z,by rw[e2,e5];exact g5⟩,h.n4,by rw[e1,e2];exact h.bx,by rw[e1,e2];exact h.len,by rw[e1];exact e3⟩
noncomputable def Ss.ta (z:Ss) (f:Bool):Addr:=if f=true then z.tw else z.ts
noncomputable def St.tn (s:St) (f:Bool):List (Option Nat):=if f=true then s.tf else s.ts
noncomputable def St.tie (s:St) (f:Bool) (j:Nat) (o:Option Nat):St:=if f=true then {s with tf:=s.tf.set j o} else {s with ts:=s.ts.set j o}
theorem TL {z:Ss} {f:Bool}:z.ta f∈z.four:=by cases f<;>simp[Ss.ta,Ss.four]
theorem yE.tie {C P S:Addr} {H:Hp} {z:Ss} {s:St} {f:Bool} {j:Nat} {o:Option Nat} (h:yE C P S H z s):yE C P S (upd H (z.ta f) (.lst (((s.tn f).map oV).set j (oV o)))) z (s.tie f j o):=by
 obtain⟨dx,h1⟩:=h.me
 obtain⟨dx1,vs1,f1,f2,f3,f4,f5⟩:=id h.fr
 obtain⟨dx2,vs2,g1,g2,g3,g4,g5⟩:=id h.sl
 have n4:=h.n4
 unfold Ss.four at n4
 simp only[gB,xA,lB,RD,not_or,YD,lC,QD] at n4
 obtain⟨⟨n1,n2,n3⟩,⟨n5,n6⟩,n7⟩:=n4
 have hl:H (z.ta f)=some (.lst ((s.tn f).map oV)):=by cases f with|true=>exact f4|false=>exact g4
 have bx:∀q,some q∈s.fr\/some q∈s.sr->q.bx≠z.ta f:=λq hq e=>h.bx q hq (by rw[e];exact TL)
 have es:((s.tn f).map oV).set j (oV o)=((s.tn f).set j o).map oV:=by rw[List.map_set]
 rw[es]
 have ni:∀{c D dx fs},H c=some (.ins D dx fs)->upd H (z.ta f) (.lst (((s.tn f).set j o).map oV)) c=some (.ins D dx fs):=λhc=>by rw[AE (qG hc hl (λz=>nomatch z))];exact hc
 have nl:∀{c o'},H c=some o'->c≠z.ta f->upd H (z.ta f) (.lst (((s.tn f).set j o).map oV)) c=some o':=λhc hn=>by rw[AE hn];exact hc
 cases f with
 |true=>exact⟨⟨dx,ni h1⟩,⟨dx1,vs1,ni f1,nl f2 n1,xK hl f3 λq hq=>bx q (.inl hq),bF,by show (s.tf.set j o).length=_;rw[BA];exact f5⟩,⟨dx2,vs2,ni g1,nl g2 (Ne.symm n5),xK hl g3 λq hq=>bx q (.inr hq),nl g4 (Ne.symm n6),g5⟩,h.n4,h.bx,h.len,h.hh⟩
 |false=>exact⟨⟨dx,ni h1⟩,⟨dx1,vs1,ni f1,nl f2 n3,xK hl f3 λq hq=>bx q (.inl hq),nl f4 n6,f5⟩,⟨dx2,vs2,ni g1,nl g2 n7,xK hl g3 λq hq=>bx q (.inr hq),bF,by show (s.ts.set j o).length=_;rw[BA];exact g5⟩,h.n4,h.bx,h.len,h.hh⟩
noncomputable def M0 (C:Addr):Sp:=λvs H Q _=>∃(s dx l h:Addr) (bs:List Int) (k:List Key),vs=[.ref s,.ref l,.ref h]/\H s=some (.ins C dx [])/\H l=some (.lst (bs.map V.int))/\H h=some (.tup (k.map kV))/\
 ∀bx hd H',H bx=none->H hd=none->Kp [s] H H'->H' s=some (.ins C dx (wO bx hd))->H' bx=some (.lst (bs.map V.int))->H' hd=some (.dT [(k,.bl true)])->Q .non H'
theorem cQ (T:bG K mg A):RH P w K mg base "Sheet" A.Ac 1 ["self","boxes","holder"] [] (M0 A.Ac):=by
 refine T.Ek.have u9 (λvs H Q E z=>?_) ?_
 ·obtain⟨s,dx,l,h,bs,k,rfl,_⟩:=z;rfl
 ·intro f cdv A' outer s H vs Q E hr z
  obtain⟨s,dx,l,h,bs,k,rfl,hs,hl,hh,q⟩:=z
  refine⟨_,(iF (SI (pE 0) (kO nP rfl T.Bd FB (sE (pE 1) zE)) rfl)
   (ME (SI (pE 0) (M7 (KS hr) (pE 2) tK) rfl))),?_⟩
  unfold aK
  walk_at "wp"
  refine⟨_,.inl (xE.of hl),λbx hbx=>?_⟩
  have b1:=WF (o:=.lst (bs.map V.int)) (sF (H:=H)) hbx
  have nsb:s≠bx:=NF hs hbx
  refine⟨A.Ac,dx,[],b1 _ _ hs,T.An,T.Au,by decide,λhd hhd=>?_⟩
  have nhs:hd≠s:=λz=>by rw[z,bF] at hhd;cases hhd
  have nhb:hd≠bx:=λz=>by rw[z,AE nsb.symm,bF] at hhd;cases hhd
  have hhd0:H hd=none:=by rw[AE nhs] at hhd;exact cG b1 hhd
  have nhh:h≠hd:=NF hh hhd0
  have nhs2:h≠s:=qG hh hs (λz=>nomatch z)
  refine⟨k,by rw[AE nhh,AE nhs2];exact b1 _ _ hh,A.Ac,dx,LE "boxes" (.ref bx) [],by rw[AE nhs.symm,bF],T.An,T.Av,by show 1 < 1000;decide,?_⟩
  refine q bx hd _ hbx hhd0 (λc o hc hx=>?_) bF ?_ ?_
  ·have ncs:c≠s:=λz=>hx (by simp[z])
   rw[AE ncs,AE (NF hc hhd0),AE ncs];exact b1 _ _ hc
  ·rw[AE nsb.symm,AE nhb.symm,AE nsb.symm,bF]
  ·rw[AE nhs,bF]
theorem zO {α β:Type} {F:α->β->Prop} {G:β->α->Prop}:∀{xs:List α} {ys:List β},Paired F xs ys->(∀x y,F x y->G y x)->Paired G ys xs
 |_,_,.nil,_=>.nil
 |_,_,.cons r t,h=>.cons (h _ _ r) (zO t h)
noncomputable def CJ (k:List Key):List (List Key)->List (List Key)
 |[]=>[k]
 |x::r=>if SG k x=true then k::x::r else x::CJ k r
noncomputable def JF:List (List Key)->List (List Key)
 |[]=>[]
 |k::r=>CJ k (JF r)
theorem AU {k:List Key}:∀{l:List (List Key)},(CJ k l).Perm (k::l)
 |[]=>rB _
 |x::r=>by
  unfold CJ
  split
  ·exact rB _
  ·exact (List.Perm.cons x (AU (l:=r))).trans (List.Perm.swap ..)
theorem DI:∀{l:List (List Key)},(JF l).Perm l
 |[]=>rB _
 |k::r=>(AU (l:=JF r)).trans (List.Perm.cons k DI)
theorem N0 {k:List Key} (hk:uG k):∀{l:List (List Key)},(∀x∈l,uG x)->k∉l->l.Pairwise (SG · ·=true)->(CJ k l).Pairwise (SG · ·=true)
 |[],_,_,_=>WB _ _
 |x::r,ht,hn,h=>by
  unfold CJ
  have hx:=ht x (wA ..)
  obtain⟨h1,h2⟩:=xB.mp h
  split
  ·rename_i c
   refine xB.mpr ⟨λy hy=>?_,h⟩
   rcases xA.mp hy with rfl|hy
   ·exact c
   ·exact aT hk hx (ht y (jA _ hy)) c (h1 y hy)
  ·rename_i c
   have c2:SG x k=true:=(ZS hk hx (λe=>hn (by rw[e];exact wA ..))).resolve_left c
   refine xB.mpr ⟨λy hy=>?_,N0 hk (λy hy=>ht y (jA _ hy)) (λz=>hn (jA _ z)) h2⟩
   rcases xA.mp (AU.mem_iff.mp hy) with rfl|hy
   ·exact c2
   ·exact h1 y hy
theorem BU:∀{l:List (List Key)},(∀x∈l,uG x)->l.Nodup->(JF l).Pairwise (SG · ·=true)
 |[],_,_=>.nil
 |k::r,ht,hn=>N0 (ht k (wA ..)) (λx hx=>ht x (jA _ (DI.mem_iff.mp hx))) (λz=>(gB.mp hn).1 (DI.mem_iff.mp z)) (BU (λx hx=>ht x (jA _ hx)) (gB.mp hn).2)
theorem PR {l ks:List (List Key)} (ht:∀x∈l,uG x) (hn:l.Nodup) (hp:ks.Perm l) (hu:ks.Pairwise (SG · ·=true)):ks=JF l:=
 nZ (hp.trans DI.symm) (λk hk=>ht k (hp.mem_iff.mp hk)) hu (BU ht hn)
noncomputable def VH (H:Hp) (l:Addr) (ks:List (List Key)):Prop:=∃us,H l=some (.lst us)/\Paired (λv k=>∃a,v=V.ref a/\H a=some (.tup (k.map kV))) us ks
theorem VH.same {H H':Hp} {l:Addr} {ks:List (List Key)} (h:VH H l ks) (s:vE H H'):VH H' l ks:=let ⟨us,h1,h2⟩:=h;⟨us,s _ _ h1,Paired.mapP h2 λ_ _ ⟨a,e,q⟩=>⟨a,e,s _ _ q⟩⟩
noncomputable def JJ (ks:List (List Key)):Prop:=ks.length < 640/\ks.Nodup/\∀k∈ks,uG k
noncomputable def cJ (r:Sh):Prop:=JJ r.ks
noncomputable def QR (C:Addr):Sp:=λvs H Q _=>∃(v:V) (r:Sh),vs=[v]/\lF C H v (some r)/\cJ r/\∀l H',H l=none->vE H H'->VH H' l (JF r.ks)->Q (.ref l) H'
theorem SR (T:bG K mg A):RE P w K mg base A.Ac "told_holders" 1 ["self"] [] (QR A.Ac):=by
 refine T.Bh.have y9 (λvs H Q E z=>?_) ?_
 ·obtain⟨v,r,rfl,_⟩:=z;rfl
 ·intro f cdv A' outer s H vs Q E hr z
  obtain⟨v,r,rfl,⟨rfl,⟨dx,h1⟩,h2,h3⟩,⟨h64,hnd,htr⟩,q⟩:=z
  refine⟨_,(ME (KF (QF (g9 rfl) rfl T.Dc dD (sE (YE (pE 0) rfl) zE)))),?_⟩
  walk_at "wp"
  simp only[h1]
  walk_at "wp"
  have ek:(iH r.ks).map (·.1)=r.ks:=by unfold iH;rw[List.map_map];exact List.map_id _
  refine⟨T.An,T.Av,_,zU,r.hd,rfl,iH r.ks,h3,λkv hkv=>?_,λl us ks hl hks hpm hup=>?_⟩
  ·exact htr _ (by rw[<-ek];exact DB.mpr ⟨kv,hkv,rfl⟩)
  ·rw[ek] at hpm
   rw[PR htr hnd hpm hup] at hks
   refine q l _ hl (WF sF hl) ⟨us,bF,?_⟩
   exact zO hks λ_ _ ⟨a,e,h⟩=>⟨a,e,(WF sF hl) _ _ h⟩
noncomputable def O0 (C:Addr):Sp:=λvs H Q _=>∃(s dx:Addr) (n:Nat),vs=[.ref s,.int n]/\H s=some (.ins C dx [])/\n<=640/\
 ∀ly tw H',H ly=none->H tw=none->ly≠tw->Kp [s] H H'->H' s=some (.ins C dx (SL ly tw))->H' ly=some (.lst (List.replicate n V.non))->H' tw=some (.lst (List.replicate n V.non))->Q .non H'
theorem dQ (T:bG K mg A):RH P w K mg base "Spots" A.Ad 1 ["self","many"] [] (O0 A.Ad):=by
 refine T.El.have K9 (λvs H Q E z=>?_) ?_
 ·obtain⟨s,dx,n,rfl,_⟩:=z;rfl
 ·intro f cdv A' outer s H vs Q E hr z
  obtain⟨s,dx,n,rfl,hs,hn,q⟩:=z
  refine⟨_,(iF (SI (pE 0) (jF AY (lH (sE wF zE)) (pE 1)) rfl)
   (ME (SI (pE 0) (jF AY (lH (sE wF zE)) (pE 1)) rfl))),?_⟩
  unfold rRep
  walk_at "wp"
  have e:∀k:Nat,(List.replicate k [V.non]).flatten=List.replicate k V.non:=λk=>by
   induction k with
   |zero=>rfl
   |succ k ih=>rw[bC,NC,ih];rfl
  intro l1 hl1
  have b1:=WF (o:=.lst [V.non]) (sF (H:=H)) hl1
  refine⟨[.non],rfl,by omega,by omega,by show 1 * n<=16777216;omega,λly hly=>?_⟩
  rw[vB,e]
  have hly0:=cG b1 hly
  have b2:=WF (o:=.lst (List.replicate n V.non)) b1 hly
  have nsl:s≠ly:=NF hs hly0
  refine⟨A.Ad,dx,[],b2 _ _ hs,T.Ae,T.Ag,by decide,λl2 hl2=>?_⟩
  have k3:∀c o,H c=some o->c≠s->upd (upd (upd H l1 (.lst [V.non])) ly (.lst (List.replicate n V.non))) s (.ins A.Ad dx (LE "lying" (.ref ly) [])) c=some o:=λc o hc hn=>by rw[AE hn];exact b2 _ _ hc
  have hs3:upd (upd (upd H l1 (.lst [V.non])) ly (.lst (List.replicate n V.non))) s (.ins A.Ad dx (LE "lying" (.ref ly) [])) s=some (.ins A.Ad dx (LE "lying" (.ref ly) [])):=bF
  have hly3:upd (upd (upd H l1 (.lst [V.non])) ly (.lst (List.replicate n V.non))) s (.ins A.Ad dx (LE "lying" (.ref ly) [])) ly=some (.lst (List.replicate n V.non)):=by rw[AE nsl.symm,bF]
  have n3:∀c,upd (upd (upd H l1 (.lst [V.non])) ly (.lst (List.replicate n V.non))) s (.ins A.Ad dx (LE "lying" (.ref ly) [])) c=none->H c=none/\c≠s:=λc hc=>by
   have ncs:c≠s:=λz=>by rw[z,bF] at hc;cases hc
   rw[AE ncs] at hc
   exact⟨cG b2 hc,ncs⟩
  generalize upd (upd (upd H l1 (.lst [V.non])) ly (.lst (List.replicate n V.non))) s (.ins A.Ad dx (LE "lying" (.ref ly) []))=H3 at *
  have c4:=WF (o:=.lst [V.non]) (sF (H:=H3)) hl2
  refine⟨[.non],rfl,by omega,by omega,by show 1 * n<=16777216;omega,λtw htw=>?_⟩
  rw[e]
  have c5:=WF (o:=.lst (List.replicate n V.non)) c4 htw
  have htw3:=cG c4 htw
  refine⟨A.Ad,dx,LE "lying" (.ref ly) [],c5 _ _ hs3,T.Ae,T.Ai,by show 1 < 1000;decide,?_⟩
  have nts:=(n3 tw htw3).2
  refine q ly tw _ hly0 (n3 tw htw3).1 (NF hly3 htw3) (λc o hc hx=>?_) bF (by rw[AE nsl.symm];exact c5 _ _ hly3) (by rw[AE nts,bF])
  have ncs:c≠s:=λz=>hx (by simp[z])
  rw[AE ncs]
  exact c5 _ _ (k3 c o hc ncs)
noncomputable def pG (rows:List (Option Sh)) (tws:List (Option Nat)):Option Nat:=(rows.zip tws).findIdx? λp=>p.1.isNone&&p.2.isNone
noncomputable def fe (rows:List (Option Sh)) (tws:List (Option Nat)):V:=match pG rows tws with
 |none=>.non
 |some j=>.int (j:Int)
noncomputable def UL (C S:Addr):Sp:=λvs H Q _=>∃(p ly tw:Addr) (rows:List (Option Sh)) (tws:List (Option Nat)),vs=[.ref p]/\CI C S H p ly tw rows tws/\∀H',vE H H'->Q (fe rows tws) H'
theorem eQ (T:bG K mg A):RE P w K mg base A.Ad "first_empty" 1 ["self"] [] (UL A.Ad A.Ac):=by
 refine T.Bo.have AT (λvs H Q E z=>?_) ?_
 ·obtain⟨p,ly,tw,rows,tws,rfl,_⟩:=z;rfl
 ·intro f cdv A' outer s H vs Q E hr z
  obtain⟨p,ly,tw,rows,tws,rfl,⟨dx,us,h1,h2,h3,h4,h5⟩,q⟩:=z
  refine⟨_,(iF (GJ jB rfl (WY rfl T.Db (sE (YE (pE 0) rfl) zE)) (ZX (n:=2) rfl (WQ (KG (i:=1) AT.nd rfl (Or.inl rfl)) (WQ (KG (i:=2) AT.nd rfl (Or.inl rfl)) YX))) (ME (VF (PW.pt (hJ (BF bI (pE 2) wF (uE _)) (gJ (BF bI (IE eF (YE (pE 0) rfl) (pE 1) (λ_ _=>rfl)) wF (uE _))))) (ME (KF (pE 1))) mG)))
   (ME (KF wF))),?_⟩
  walk_at "wp"
  simp only[h1]
  walk_at "wp"
  have hul:=Paired.length h3
  have hzl:(rows.zip tws).length=rows.length:=by rw[List.length_zip];omega
  refine⟨T.Ae,T.Ag,_,AH,ly,rfl,⟨_,xE.of h2⟩,XY (xs:=us) (λi σ H'=>∃v1 v2,σ=[some (.ref p),v1,v2]/\vE H H'/\∀(j:Nat) y,j < i->(rows.zip tws)[j]?=some y->(y.1.isNone&&y.2.isNone)=false) ⟨_,_,rfl,sF,λj r h=>absurd h (xC _)⟩ (λi σ H' _ ⟨_,_,_,e,_⟩=>xE.of (e _ _ h2)) (λi x tt σ H' hi=>?_) (λσ H1=>?_)⟩
  ·rintro⟨v1,v2,rfl,s1,hno⟩ ht
   obtain⟨y,hy1,hy2⟩:=BI h3 hi
   have b1:=WF (o:=.tup [V.int i,x]) s1 ht
   have hil:i < rows.length:=(aA.mp hy1).1
   obtain⟨o,ho⟩:∃o,tws[i]?=some o:=⟨_,bA (by omega)⟩
   have hzi:(rows.zip tws)[i]?=some (y,o):=by rw[OB];exact⟨hy1,ho⟩
   have go:(y.isNone&&o.isNone)=false->∀(j:Nat) y,j < i+1->(rows.zip tws)[j]?=some y->(y.1.isNone&&y.2.isNone)=false:=λhb j y' hj hy=>by
    rcases (by omega:j < i\/j=i) with h|rfl
    ·exact hno j y' h hy
    ·rw[hzi] at hy
     cases hy
     exact hb
   cases y with
   |none=>
    obtain rfl:x=.non:=hy2
    walk_at "wp"
    refine⟨_,oF.of bF,rfl,_,_,rfl,_,_,rfl,rfl,?_⟩
    rw[iA rfl]
    refine⟨A.Ad,dx,_,b1 _ _ h1,T.Ae,T.Ai,_,KI,tw,rfl,_,_,rfl,xE.of (b1 _ _ h4),oV o,HE (by rw[NA,ho];rfl),?_⟩
    cases o with
    |none=>
     rw[iA (show oV none=V.non from rfl)]
     have e:fe rows tws=.int (i:Int):=by
      have e:pG rows tws=some i:=pC.mpr ⟨by omega,by rw[(aA.mp hzi).2];rfl,λj hj=>by
       rw[hno j _ hj (bA (by omega))]
       decide⟩
      unfold fe
      rw[e]
     have hq:=q _ b1
     rw[e] at hq
     exact hq
    |some j=>
     rw[fA (λz=>nomatch z)]
     exact⟨b1,go rfl⟩
   |some r=>
    obtain⟨rfl,_⟩:=hy2
    walk_at "wp"
    refine⟨_,oF.of bF,rfl,_,_,rfl,_,_,rfl,rfl,?_⟩
    rw[fA (λz=>nomatch z)]
    exact gF ⟨b1,go rfl⟩
  rintro⟨v1,v2,rfl,s1,hno⟩
  walk_at "wp"
  have e:fe rows tws=.non:=by
   have e:pG rows tws=none:=SD.mpr λy hy=>by
    obtain⟨j,hj⟩:=dB.mp hy
    exact hno j y (by rw[hul,<-hzl];exact (aA.mp hj).1) hj
   unfold fe
   rw[e]
  rw[<-e]
  exact q _ s1
noncomputable def yG (rows:List (Option Sh)):Nat:=(rows.filter Option.isSome).length
noncomputable def VL (C S:Addr):Sp:=λvs H Q _=>∃(p ly tw:Addr) (rows:List (Option Sh)) (tws:List (Option Nat)),vs=[.ref p]/\CI C S H p ly tw rows tws/\rows.length<=640/\∀H',vE H H'->Q (.int (yG rows:Nat)) H'
theorem CU (T:bG K mg A):RE P w K mg base A.Ad "live_count" 1 ["self"] [] (VL A.Ad A.Ac):=by
 refine T.B3.have N9 (λvs H Q E z=>?_) ?_
 ·obtain⟨p,ly,tw,rows,tws,rfl,_⟩:=z;rfl
 ·intro f cdv A' outer s H vs Q E hr z
  obtain⟨p,ly,tw,rows,tws,rfl,⟨dx,us,h1,h2,h3,h4,_⟩,hlen,q⟩:=z
  refine⟨_,(ME (KF (QF MG rfl T.Aj PySem.boot_len (sE (HJ rfl (FJ (YE (pE 0) rfl)) (x:="sheet") (fs:=[]) (ix:=[]) rfl rfl (λ_ _ _ _ _ _=>(KG (i:=0) (show (["sheet"]:List Str).Nodup by decide+kernel) rfl (Or.inl rfl))) (λ_ _ _ _ _ _=>(LM (BF cI (pE 0) wF (uE _)))) (λ_ _ _ _ _ _=>(pE 0))) zE)))),?_⟩
  walk_at "wp"
  simp only[h1]
  walk_at "wp"
  have hul:=Paired.length h3
  refine⟨T.Ae,T.Ag,_,AH,ly,rfl,⟨_,xE.of h2⟩,λD hD=>MM (xs:=us) (λi ys σ H'=>∃v,σ=[v]/\vE H H'/\H' D=some (.lst ys)/\ys.length=yG (rows.take i)) ⟨_,rfl,WF sF hD,bF,rfl⟩ (λi ys σ H' _ ⟨_,_,s2,_⟩=>xE.of (s2 _ _ h2)) (λi v ys σ H' hi=>?_) (λys σ H'=>?_)⟩
  ·rintro⟨v0,rfl,s1,hD1,hy⟩
   obtain⟨y,hy1,hy2⟩:=BI h3 hi
   have htk:rows.take (i+1)=rows.take i++[y]:=by rw[pB,hy1];rfl
   have hc:yG (rows.take (i+1))=yG (rows.take i)+(if y.isSome=true then 1 else 0):=by
    unfold yG
    rw[htk,GC,nA]
    cases y<;>rfl
   have hle:yG (rows.take i)<=640:=by
    unfold yG
    exact EB (yD _ _) (by rw[XA];omega)
   have hz:=PySem.sizeLine_eq
   cases y with
   |none=>
    obtain rfl:v=.non:=hy2
    walk_at "wp"
    exact gF ⟨s1,hD1,by rw[hc];exact hy⟩
   |some r=>
    obtain⟨rfl,_⟩:=hy2
    walk_at "wp"
    exact oG ⟨hD1,by omega,pH s1 hD,by rw[nA,hc,hy];rfl⟩
  ·rintro⟨v0,rfl,s1,hD1,hy⟩
   rw[hul,mB] at hy
   refine⟨_,.inl ⟨_,xE.of hD1,rfl⟩,?_⟩
   rw[hy]
   exact q _ s1
noncomputable def CH (tws:List (Option Nat)):Option Nat:=tws.findSome? id
noncomputable def fQ (C S:Addr):Sp:=λvs H Q _=>∃(p ly tw:Addr) (rows:List (Option Sh)) (tws:List (Option Nat)),vs=[.ref p]/\CI C S H p ly tw rows tws/\∀H',vE H H'->Q (oV (CH tws)) H'
theorem DU (T:bG K mg A):RE P w K mg base A.Ad "first_twin" 1 ["self"] [] (fQ A.Ad A.Ac):=by
 refine T.B1.have QZ (λvs H Q E z=>?_) ?_
 ·obtain⟨p,ly,tw,rows,tws,rfl,_⟩:=z;rfl
 ·intro f cdv A' outer s H vs Q E hr z
  obtain⟨p,ly,tw,rows,tws,rfl,⟨dx,us,h1,h2,h3,h4,_⟩,q⟩:=z
  refine⟨_,(iF (GJ jB rfl (FJ (YE (pE 0) rfl)) (KG (i:=1) QZ.nd rfl (Or.inl rfl)) (ME (VF (BF cI (pE 1) wF (uE _)) (ME (KF (pE 1))) mG)))
   (ME (KF wF))),?_⟩
  walk_at "wp"
  simp only[h1]
  walk_at "wp"
  refine⟨T.Ae,T.Ai,_,KI,tw,rfl,⟨_,xE.of h4⟩,rP (xs:=tws.map oV) (λi σ H'=>∃v1,σ=[some (.ref p),v1]/\vE H H'/\CH tws=CH (tws.drop i)) ⟨_,rfl,sF,rfl⟩ (λi σ H' _ ⟨_,_,e,_⟩=>xE.of (e _ _ h4)) (λi x σ H' hi=>?_) (λσ H1=>?_)⟩
  ·rintro⟨v1,rfl,s1,hd⟩
   rw[NA] at hi
   obtain⟨o,ho,rfl⟩:=eC.mp hi
   have hdr:tws.drop i=o::tws.drop (i+1):=by
    obtain⟨q1,q2⟩:=aA.mp ho
    rw[<-q2];exact qC q1
   walk_at "wp"
   cases o with
   |none=>exact gF ⟨s1,by rw[hd,hdr];rfl⟩
   |some j=>
    refine oG ?_
    have e:CH tws=some j:=by rw[hd,hdr];rfl
    have:=q _ s1
    rw[e] at this
    exact this
  ·rintro⟨v1,rfl,s1,hd⟩
   rw[lA,List.drop_length] at hd
   walk_at "wp"
   have:=q _ s1
   rw[hd] at this
   exact this
theorem nJ {rows:List (Option Sh)} {a:Addr}:a∈iG rows↔∃r,some r∈rows/\r.hd=a:=by
 unfold iG
 rw[kC]
 refine⟨λ⟨x,hx,e⟩=>?_,λ⟨r,hr,e⟩=>⟨some r,hr,by rw[<-e];rfl⟩⟩
 cases x with
 |none=>cases e
 |some r=>exact⟨r,hx,cA e⟩
theorem dJ {α β:Type} {F:α->β->Prop} {xs:List α} {ys:List β} {x:α} {y:β} (h:Paired F xs ys) (hx:F x y):Paired F (xs++[x]) (ys++[y]):=by
 induction h with
 |nil=>exact .cons hx .nil
 |cons r t ih=>exact .cons r ih
theorem DH {n j:Nat} (h:j < n):OJ n (j:Int)=some j:=by
 unfold OJ
 rw[iA (by omega),iA (by omega)];rfl
theorem NL {rows:List (Option Sh)}:yG rows<=rows.length:=yD _ _
noncomputable def FF (s:St):Nat:=yG s.fr+yG s.sr
noncomputable def room (s:St):Nat:=s.fr.length+s.sr.length
noncomputable def wN (C P S:Addr):Sp:=λvs H Q _=>∃(s dx:Addr) (n m:Nat) (z:Int),vs=[.ref s,.int n,.int m,.int z]/\H s=some (.ins C dx [])/\1<=n/\n<=640/\m<=640/\
 ∀H' y,yE C P S H' y ⟨List.replicate n none,List.replicate m none,0,0,0,0,List.replicate n none,List.replicate m none⟩->y.p=s->(∀c∈y.four,H c=none)->Kp [s] H H'->Q .non H'
theorem gQ (T:bG K mg A):RH P w K mg base "Sheets" A.Aa 3 ["self","frames","slots","size"] [] (wN A.Aa A.Ad A.Ac):=by
 have Ch:=dQ (P:=P) (w:=w) (base:=base) T
 refine T.D5.have O9 (λvs H Q E z=>?_) ?_
 ·obtain⟨s,dx,n,m,z,rfl,_⟩:=z;rfl
 ·intro f cdv A' outer s H vs Q E hr z
  obtain⟨s,dx,n,m,z,rfl,hs,hn0,hn,hm,q⟩:=z
  refine⟨_,(iF (SI (pE 0) (pE 3) rfl)
   (zF (SI (pE 0) (eR Ch (hr.mono (by decide)) nF (sE (pE 1) zE)) rfl)
   (iF (SI (pE 0) (eR Ch (hr.mono (by decide)) nF (sE (pE 2) zE)) rfl)
   (iF (SI (pE 0) EE rfl)
   (iF (SI (pE 0) EE rfl)
   (iF (SI (pE 0) EE rfl)
   (ME (SI (pE 0) EE rfl)))))))),?_⟩
  unfold O0
  walk_at "wp"
  refine⟨A.Aa,dx,[],hs,T.Ab,T.Dr,by decide,?_⟩
  have hs1:upd H s (.ins A.Aa dx (LE "size" (.int z) [])) s=some (.ins A.Aa dx (LE "size" (.int z) [])):=bF
  have k1:∀c o,H c=some o->c≠s->upd H s (.ins A.Aa dx (LE "size" (.int z) [])) c=some o:=λc o hc hn=>by rw[AE hn];exact hc
  have n1:∀c,upd H s (.ins A.Aa dx (LE "size" (.int z) [])) c=none->H c=none/\c≠s:=λc hc=>by
   have ncs:c≠s:=λz=>by rw[z,bF] at hc;cases hc
   rw[AE ncs] at hc
   exact⟨hc,ncs⟩
  generalize upd H s (.ins A.Aa dx (LE "size" (.int z) []))=H1 at *
  refine⟨λσ H'=>∃fp fdx ly tw H2,σ=[some (.ref s),some (.int (n:Int)),some (.int (m:Int)),some (.int z)]/\H1 fp=none/\H1 ly=none/\H1 tw=none/\ly≠tw/\vE H1 H2/\H2 fp=some (.ins A.Ad fdx (SL ly tw))/\H2 ly=some (.lst (List.replicate n V.non))/\H2 tw=some (.lst (List.replicate n V.non))/\H'=upd H2 s (.ins A.Aa dx (LE "frames" (.ref fp) (LE "size" (.int z) []))),?_,λσ' H'=>?_⟩
  ·walk_at "wp"
   intro fp fdx hfp hfdx hne
   refine⟨fdx,n,rfl,rfl,hn,λly tw H2 hly htw hlt kp2 a1 a2 a3=>?_⟩
   have sm:=fR (o:=.ins A.Ad fdx []) hfp hfdx hne
   have s12:vE H1 H2:=λc o hc=>kp2 c o (sm c o hc) (λz=>NF hc hfp (kA.mp z))
   exact⟨A.Aa,dx,_,s12 _ _ hs1,T.Ab,T.Af,by show 1 < 1000;decide,fp,hfp,fdx,ly,cG sm hly,tw,cG sm htw,hlt,H2,s12,a1,a2,a3,rfl⟩
  rintro⟨fp,fdx,ly,tw,H2,rfl,hfp,hly1,htw1,hlt,s12,a1,a2,a3,rfl⟩
  walk_at "wp"
  have k3:∀c o,H2 c=some o->c≠s->upd H2 s (.ins A.Aa dx (LE "frames" (.ref fp) (LE "size" (.int z) []))) c=some o:=λc o hc hn=>by rw[AE hn];exact hc
  have hs3:upd H2 s (.ins A.Aa dx (LE "frames" (.ref fp) (LE "size" (.int z) []))) s=some (.ins A.Aa dx (LE "frames" (.ref fp) (LE "size" (.int z) []))):=bF
  have n3:∀c,upd H2 s (.ins A.Aa dx (LE "frames" (.ref fp) (LE "size" (.int z) []))) c=none->H2 c=none:=λc hc=>by
   have ncs:c≠s:=λz=>by rw[z,bF] at hc;cases hc
   rw[AE ncs] at hc
   exact hc
  generalize upd H2 s (.ins A.Aa dx (LE "frames" (.ref fp) (LE "size" (.int z) [])))=H3 at *
  intro sq sdx hsq hsdx hne2
  refine⟨sdx,m,rfl,rfl,hm,λls ts H4 hls hts hlt2 kp4 c1 c2 c3=>?_⟩
  have sm2:=fR (o:=.ins A.Ad sdx []) hsq hsdx hne2
  have s34:vE H3 H4:=λc o hc=>kp4 c o (sm2 c o hc) (λz=>NF hc hsq (kA.mp z))
  refine⟨A.Aa,dx,_,s34 _ _ hs3,T.Ab,T.Ah,by show 2 < 1000;decide,T.Ab,T.A0,by show 3 < 1000;decide,T.Ab,T.As,by show 4 < 1000;decide,T.Ab,T.Aq,by show 5 < 1000;decide,T.Ab,T.Ar,by show 6 < 1000;decide,?_⟩
  have nfs:=(n1 fp hfp).2
  have nls:=(n1 ly hly1).2
  have nts:=(n1 tw htw1).2
  have g1:=s34 _ _ (k3 _ _ a1 nfs)
  have g2:=s34 _ _ (k3 _ _ a2 nls)
  have g3:=s34 _ _ (k3 _ _ a3 nts)
  have hls3:=cG sm2 hls
  have hts3:=cG sm2 hts
  have nls2:ls≠s:=λz=>by rw[z,hs3] at hls3;cases hls3
  have nts2:ts≠s:=λz=>by rw[z,hs3] at hts3;cases hts3
  have nsq:sq≠s:=λz=>by rw[z,hs3] at hsq;cases hsq
  have e1:∀(kk:Nat) (HH:Hp),lG A.Ac HH (List.replicate kk V.non) (List.replicate kk none):=λkk HH=>by
   induction kk with
   |zero=>exact .nil
   |succ k ih=>exact .cons rfl ih
  have er:∀k:Nat,(List.replicate k (none:Option Nat)).map oV=List.replicate k V.non:=λk=>by rw[List.map_replicate];rfl
  have hls2:=n3 ls hls3
  have hts2:=n3 ts hts3
  have nlsl:=NF (k3 _ _ a2 nls) hls3
  have nlst:=NF (k3 _ _ a2 nls) hts3
  have ntsl:=NF (k3 _ _ a3 nts) hls3
  have ntst:=NF (k3 _ _ a3 nts) hts3
  refine q _ ⟨s,fp,ly,tw,sq,ls,ts,z⟩ ⟨⟨dx,bF⟩,⟨fdx,_,by rw[AE nfs];exact g1,by rw[AE nls];exact g2,e1 n _,by rw[AE nts,er];exact g3,by rw[FA,FA]⟩,⟨sdx,_,by rw[AE nsq];exact c1,by rw[AE nls2];exact c2,e1 m _,by rw[AE nts2,er];exact c3,by rw[FA,FA]⟩,?_,λr hr=>hr.elim (λh=>absurd (iB h) (λz=>nomatch z)) (λh=>absurd (iB h) (λz=>nomatch z)),by show (List.replicate n none).length<=640/\(List.replicate m none).length<=640;rw[FA,FA];exact⟨hn,hm⟩,by show 0 < (List.replicate n none).length;rw[FA];exact hn0⟩ rfl (λc hc=>?_) (λc o hc hx=>?_)
  ·show [ly,tw,ls,ts].Nodup
   simp only[gB,xA,lB,RD,not_or,YD,lC,QD]
   exact⟨⟨hlt,nlsl,nlst⟩,⟨ntsl,ntst⟩,hlt2⟩
  ·have hc:c∈[ly,tw,ls,ts]:=hc
   simp only[xA,lB,RD] at hc
   rcases hc with rfl|rfl|rfl|rfl
   ·exact (n1 _ hly1).1
   ·exact (n1 _ htw1).1
   ·exact (n1 _ (cG s12 hls2)).1
   ·exact (n1 _ (cG s12 hts2)).1
  ·have ncs:c≠s:=λz=>hx (by simp[z])
   rw[AE ncs]
   exact s34 _ _ (k3 _ _ (s12 _ _ (k1 c o hc ncs)) ncs)
noncomputable def EU (C P S:Addr):Sp:=λvs H Q _=>∃(z:Ss) (s:St),vs=[.ref z.p]/\yE C P S H z s/\∀H',vE H H'->Q (.int (FF s:Nat)) H'
theorem P0 (T:bG K mg A):RE P w K mg base A.Aa "live_sheets" 2 ["self"] [] (EU A.Aa A.Ad A.Ac):=by
 have Bb:=CU (P:=P) (w:=w) (base:=base) T
 refine T.Bi.have P9 (λvs H Q E z=>?_) ?_
 ·obtain⟨z,s,rfl,_⟩:=z;rfl
 ·intro f cdv A' outer s H vs Q E hr z
  obtain⟨z,s,rfl,hS,q⟩:=z
  obtain⟨dx,h1⟩:=hS.me
  refine⟨_,(ME (KF (jF PH (KH (YE (pE 0) rfl) T.Ae Bb (hr.mono (by decide)) nF) (KH (YE (pE 0) rfl) T.Ae Bb (hr.mono (by decide)) nF)))),?_⟩
  unfold VL
  walk_at "wp"
  simp only[h1]
  walk_at "wp"
  obtain⟨dx1,vs1,f1,_⟩:=id hS.fr
  refine⟨T.Ab,T.Af,_,LH,z.fp,rfl,dx1,_,f1,xO (by decide+kernel),z.fp,rfl,z.ly,z.tw,s.fr,s.tf,hS.fr,hS.len.1,λH1 s1=>?_⟩
  obtain⟨dx2,vs2,f2,_⟩:=id hS.sl
  refine⟨_,dx,_,s1 _ _ h1,T.Ab,T.Ah,_,qI,z.sq,rfl,dx2,_,s1 _ _ f2,xO (by decide+kernel),z.sq,rfl,z.ls,z.ts,s.sr,s.ts,hS.sl.same s1,hS.len.2,λH2 s2=>?_⟩
  exact q _ (s1.trans s2)
noncomputable def Q0 (C P S:Addr):Sp:=λvs H Q _=>∃(z:Ss) (s:St),vs=[.ref z.p]/\yE C P S H z s/\∀H',vE H H'->Q (.bl (decide ((FF s:Int)>=(s.fr.length:Int)+(s.sr.length:Int)))) H'
theorem xN (T:bG K mg A):RE P w K mg base A.Aa "is_full" 3 ["self"] [] (Q0 A.Aa A.Ad A.Ac):=by
 have Aw:=P0 (P:=P) (w:=w) (base:=base) T
 refine T.Dd.have Q9 (λvs H Q E z=>?_) ?_
 ·obtain⟨z,s,rfl,_⟩:=z;rfl
 ·intro f cdv A' outer s H vs Q E hr z
  obtain⟨z,s,rfl,hS,q⟩:=z
  obtain⟨dx,h1⟩:=hS.me
  refine⟨_,(ME (KF (AM fP (KH (pE 0) T.Ab Aw (hr.mono (by decide)) nF) (jF PH (QF MG rfl T.Aj PySem.boot_len (sE (YE (YE (pE 0) rfl) rfl) zE)) (QF MG rfl T.Aj PySem.boot_len (sE (YE (YE (pE 0) rfl) rfl) zE))) (uE _)))),?_⟩
  unfold EU
  walk_at "wp"
  simp only[h1]
  walk_at "wp"
  obtain⟨dx1,vs1,f1,f2,f3,f4⟩:=id hS.fr
  obtain⟨dx2,vs2,g1,g2,g3,g4⟩:=id hS.sl
  have l1:=Paired.length f3
  have l2:=Paired.length g3
  refine⟨UG (by decide+kernel),z,rfl,s,hS,λH1 s1=>⟨_,dx,_,s1 _ _ h1,T.Ab,T.Af,_,LH,z.fp,rfl,_,dx1,_,s1 _ _ f1,T.Ae,T.Ag,_,AH,_,.inl ⟨_,xE.of (s1 _ _ f2),rfl⟩,_,dx,_,s1 _ _ h1,T.Ab,T.Ah,_,qI,z.sq,rfl,_,dx2,_,s1 _ _ g1,T.Ae,T.Ag,_,AH,_,.inl ⟨_,xE.of (s1 _ _ g2),rfl⟩,?_⟩⟩
  rw[l1,l2]
  exact q _ s1
noncomputable def FU (C P S:Addr):Sp:=λvs H Q _=>∃(z:Ss) (s:St),vs=[.ref z.p]/\yE C P S H z s/\Q (.int s.h) H
theorem yN (T:bG K mg A):RE P w K mg base A.Aa "hand_at" 1 ["self"] [] (FU A.Aa A.Ad A.Ac):=by
 refine T.De.have R9 (λvs H Q E z=>?_) ?_
 ·obtain⟨z,s,rfl,_⟩:=z;rfl
 ·intro f cdv A' outer s H vs Q E hr z
  obtain⟨z,s,rfl,hS,q⟩:=z
  obtain⟨dx,h1⟩:=hS.me
  refine⟨_,(ME (KF (YE (pE 0) rfl))),?_⟩
  walk_at "wp"
  simp only[h1]
  walk_at "wp"
  exact⟨T.Ab,T.A0,_,bQ,q⟩
noncomputable def GU (C P S:Addr):Sp:=λvs H Q _=>∃(z:Ss) (s:St),vs=[.ref z.p]/\yE C P S H z s/\∀t,H t=none->Q (.ref t) (upd H t (.tup [.int s.go,.int s.ga,.int s.cb]))
theorem ja (T:bG K mg A):RE P w K mg base A.Aa "moved" 1 ["self"] [] (GU A.Aa A.Ad A.Ac):=by
 refine T.Dt.have V9 (λvs H Q E z=>?_) ?_
 ·obtain⟨z,s,rfl,_⟩:=z;rfl
 ·intro f cdv A' outer s H vs Q E hr z
  obtain⟨z,s,rfl,hS,q⟩:=z
  obtain⟨dx,h1⟩:=hS.me
  refine⟨_,(ME (KF (mH (sE (YE (pE 0) rfl) (sE (YE (pE 0) rfl) (sE (YE (pE 0) rfl) zE)))))),?_⟩
  walk_at "wp"
  simp only[h1]
  walk_at "wp"
  exact⟨T.Ab,T.As,_,x0,T.Ab,T.Aq,_,I0,T.Ab,T.Ar,_,K0,q⟩
theorem KJ {p q:Prop} {b:Bool} (h:b=false) (x:q):if b=true then p else q:=by rw[h];exact x
theorem EI {p q:Prop} {b:Bool} (h:b=true) (x:p):if b=true then p else q:=by rw[h];exact x
theorem UF {H:Hp} {p:Addr} {o:HO} (h:H p=none):vE H (upd H p o)/\upd H p o p=some o:=⟨WF sF h,bF⟩
theorem jH {a b:List (Option Sh)}:iG (a++b)=iG a++iG b:=by unfold iG;rw[List.filterMap_append]
theorem nK:∀{rows:List (Option Sh)} {j:Nat} {r:Sh},rows[j]?=some none->(iG (rows.set j (some r))).Perm (r.hd::iG rows):=by
 intro rows
 induction rows with
 |nil=>intro j r h;simp at h
 |cons x l ih=>
  intro j r h
  cases j with
  |zero=>
   simp at h
   subst h
   exact rB _
  |succ j=>
   have:=ih (j:=j) (r:=r) (by simpa using h)
   cases x with
   |none=>exact this
   |some y=>exact (List.Perm.cons y.hd this).trans (List.Perm.swap ..)
theorem WL {rows:List (Option Sh)} {j:Nat} {q:Sh} (h:rows[j]?=some (some q)):(iG rows).Perm (q.hd::iG (rows.set j none)):=by
 obtain⟨h1,h2⟩:=aA.mp h
 have:=nK (rows:=rows.set j none) (j:=j) (r:=q) (by rw[EA h1])
 rw[RB,<-h2,yB] at this
 exact this
theorem R0 {C S:Addr} {G:Hp} {z:Ss} {s s':St} {dx:Addr} (e:G z.p=some (.ins C dx (gH z.n z.fp z.sq s))) {v:V} {r:Option Sh} (hv:lF S G v r):lF S (upd G z.p (.ins C dx (gH z.n z.fp z.sq s'))) v r:=by
 have ho:∀{c o},G c=some o->(∀D d fs,o=.ins D d fs->fs.lookup ("hand":Str)=none)->upd G z.p (.ins C dx (gH z.n z.fp z.sq s')) c=some o:=λ{c o} hc hn=>by
  rw[AE (λe9=>?_)]
  ·exact hc
  ·rw[e9,e] at hc
   have:=hn _ _ _ (cA hc).symm
   rw[bQ] at this
   cases this
 cases r with
 |none=>exact hv
 |some r=>
  obtain⟨a,⟨d,h1⟩,h2,h3⟩:=hv
  exact⟨a,⟨d,ho h1 λ_ _ _ z=>by cases z;exact RL (by decide+kernel)⟩,ho h2 λ_ _ _ z=>(nomatch z),ho h3 λ_ _ _ z=>nomatch z⟩
theorem TR {z:Ss} {H G:Hp} {o:HO} (k:Ks z H G):Ks z H (upd G z.p o):=λc o' h h1 h2=>by rw[AE h1];exact k c o' h h1 h2
theorem YL {z:Ss} {H G:Hp} {f:Bool} {o:HO} (k:Ks z H G):Ks z H (upd G (z.la f) o):=λc o' h h1 h2=>by rw[AE (λe=>h2 (by rw[e];exact IJ))];exact k c o' h h1 h2
noncomputable def QK (ms:List Bool) (h i:Nat) (ps:List Int):Prop:=∃j:Nat,j<=ms.length/\(∀t < j,ms.getD (((h:Int)+t) % (ms.length:Int)).toNat false=true)/\(j=ms.length\/ms.getD (((h:Int)+j) % (ms.length:Int)).toNat false=false)/\(i:Int)=((h:Int)+j) % (ms.length:Int)/\ps=rg ms.length h j
theorem AO {z:Ss} {H G:Hp} {f:Bool} {o:HO} (k:Ks z H G):Ks z H (upd G (z.ta f) o):=λc o' h h1 h2=>by rw[AE (λe=>h2 (by rw[e];exact TL))];exact k c o' h h1 h2
noncomputable def ZE (s:St) (i:Nat) (c:Option Nat):Option Nat:=match s.tf[i]? with
 |some (some j)=>some j
 |_=>match pG s.sr s.ts with
  |some j=>some j
  |none=>match CH s.tf with
   |some j=>some j
   |none=>c
noncomputable def iQ (C P S:Addr):Sp:=λvs H Q _=>∃(z:Ss) (s:St) (i:Nat) (c:Option Nat),vs=[.ref z.p,.int i,oV c]/\yE C P S H z s/\i < s.fr.length/\∀H',vE H H'->Q (oV (ZE s i c)) H'
theorem HU (T:bG K mg A):RE P w K mg base A.Aa "slot_for" 2 ["self","frame","coming_from"] [] (iQ A.Aa A.Ad A.Ac):=by
 have Ax:=eQ (P:=P) (w:=w) (base:=base) T
 have Ci:=DU (P:=P) (w:=w) (base:=base) T
 refine T.Cr.have kU (λvs H Q E z=>?_) ?_
 ·obtain⟨z,s,i,v,rfl,_⟩:=z;rfl
 ·intro f cdv A' outer s H vs Q E hr z
  obtain⟨z,s,i,c,rfl,hS,hi,q⟩:=z
  obtain⟨dx,h1⟩:=hS.me
  obtain⟨dx1,vs1,f1,f2,f3,f4,f5⟩:=id hS.fr
  obtain⟨dx2,vs2,g1,g2,g3,g4,g5⟩:=id hS.sl
  obtain⟨o,ho⟩:∃o,s.tf[i]?=some o:=⟨_,bA (by omega)⟩
  have hat:jJ (s.tf.map oV) (i:Int)=some (oV o):=HE (by rw[NA,ho];rfl)
  refine⟨_,(iF (VF (BF cI (IE eF (YE (YE (pE 0) rfl) rfl) (pE 1) (λ_ _=>rfl)) wF (uE _)) (ME (KF (IE eF (YE (YE (pE 0) rfl) rfl) (pE 1) (λ_ _=>rfl)))) mG)
   (iF (xF (i:=3) kU.nd rfl (Or.inl rfl) (KH (YE (pE 0) rfl) T.Ae Ax (hr.mono (by decide)) nF))
   (iF (VF (BF cI (pE 3) wF (uE _)) (ME (KF (pE 3))) mG)
   (iF (xF (i:=4) kU.nd rfl (Or.inl rfl) (KH (YE (pE 0) rfl) T.Ae Ci (hr.mono (by decide)) nF))
   (ME (KF (UQ (BF bI (pE 4) wF (uE _)) (pE 2) (pE 4)))))))),?_⟩
  walk_at "wp"
  simp only[h1]
  walk_at "wp"
  refine⟨T.Ab,T.Af,_,LH,z.fp,rfl,_,dx1,_,f1,T.Ae,T.Ai,_,KI,z.tw,rfl,_,xE.of f4,oV o,hat,?_⟩
  unfold ZE at q
  rw[ho] at q
  cases o with
  |some j=>
   rw[vA (show ¬(oV (some j)=V.non) from λz=>nomatch z)]
   refine oG ⟨T.Ab,T.Af,_,LH,z.fp,rfl,_,dx1,_,f1,T.Ae,T.Ai,_,KI,z.tw,rfl,_,xE.of f4,oV (some j),hat,?_⟩
   exact q H sF
  |none=>
   rw[AA (show oV none=V.non from rfl)]
   refine gF ⟨T.Ab,T.Ah,_,qI,z.sq,rfl,dx2,_,g1,xO (by decide+kernel),z.sq,z.ls,z.ts,s.sr,s.ts,rfl,hS.sl,λH1 s1=>?_⟩
   unfold fe
   cases e9:pG s.sr s.ts with
   |some j=>
    rw[e9] at q
    rw[vA (λz=>nomatch z)]
    exact oG (q H1 s1)
   |none=>
    rw[e9] at q
    rw[AA (rfl:V.non=V.non)]
    refine gF ⟨_,dx,_,s1 _ _ h1,T.Ab,T.Af,_,LH,z.fp,rfl,dx1,_,s1 _ _ f1,xO (by decide+kernel),z.fp,z.ly,z.tw,s.fr,s.tf,rfl,hS.fr.same s1,λH2 s2=>?_⟩
    have q2:=q H2 (s1.trans s2)
    cases e8:CH s.tf with
    |none=>
     rw[e8] at q2
     show if oV none=V.non then _ else _
     rw[iA (show oV none=V.non from rfl)]
     exact q2
    |some j=>
     rw[e8] at q2
     show if oV (some j)=V.non then _ else _
     rw[fA (show ¬(oV (some j)=V.non) from λz=>nomatch z)]
     exact q2
noncomputable def untie (s:St) (i:Nat):St:=match s.tf[i]? with
 |some (some j)=>(s.tie true i none).tie false j none
 |_=>s
noncomputable def ka (C P S:Addr):Sp:=λvs H Q _=>∃(z:Ss) (s:St) (i:Nat),vs=[.ref z.p,.int i]/\yE C P S H z s/\i < s.fr.length/\(∀j,s.tf[i]?=some (some j)->j < s.sr.length)/\∀H',yE C P S H' z (untie s i)->Ks z H H'->(∀v r,r.bx∉z.four->lF S H v (some r)->lF S H' v (some r))->Q .non H'
theorem S0 (T:bG K mg A):RE P w K mg base A.Aa "lose_twin" 1 ["self","frame"] [] (ka A.Aa A.Ad A.Ac):=by
 refine T.B7.have YZ (λvs H Q E z=>?_) ?_
 ·obtain⟨z,s,j,rfl,_⟩:=z;rfl
 ·intro f cdv A' outer s H vs Q E hr z
  obtain⟨z,s,i,rfl,hS,hi,hb,q⟩:=z
  obtain⟨dx,h1⟩:=hS.me
  obtain⟨dx1,vs1,f1,f2,f3,f4,f5⟩:=id hS.fr
  obtain⟨o,ho⟩:∃o,s.tf[i]?=some o:=⟨_,bA (by omega)⟩
  have hat:jJ (s.tf.map oV) (i:Int)=some (oV o):=HE (by rw[NA,ho];rfl)
  refine⟨_,(iF (xF (i:=2) YZ.nd rfl (Or.inl rfl) (IE eF (YE (YE (pE 0) rfl) rfl) (pE 1) (λ_ _=>rfl)))
   (ME (VF (BF cI (pE 2) wF (uE _)) (iF (IH wF (GH (YE (YE (pE 0) rfl) rfl) (pE 1) JH))
   (ME (IH wF (GH (YE (YE (pE 0) rfl) rfl) (pE 2) JH)))) mG))),?_⟩
  walk_at "wp"
  simp only[h1]
  walk_at "wp"
  refine⟨T.Ab,T.Af,_,LH,z.fp,rfl,_,dx1,_,f1,T.Ae,T.Ai,_,KI,z.tw,rfl,_,xE.of f4,oV o,hat,?_⟩
  unfold untie at q
  rw[ho] at q
  cases o with
  |none=>
   rw[AA (show oV none=V.non from rfl)]
   exact gF (q H hS (Ks.of sF) λ_ _ _ h=>h)
  |some j=>
   rw[vA (show ¬(oV (some j)=V.non) from λz=>nomatch z)]
   refine oG ?_
   have hj:=hb j ho
   refine⟨T.Ab,T.Af,_,LH,z.fp,rfl,_,dx1,_,f1,T.Ae,T.Ai,_,KI,z.tw,rfl,_,f4,i,DH (by rw[lA];omega),?_⟩
   have S1:yE A.Aa A.Ad A.Ac (upd H z.tw (.lst ((s.tf.map oV).set i .non))) z (s.tie true i none):=hS.tie (f:=true) (j:=i) (o:=none)
   have k1:Ks z H (upd H z.tw (.lst ((s.tf.map oV).set i .non))):=AO (f:=true) (Ks.of sF)
   have w1:∀v r,r.bx∉z.four->lF A.Ac H v (some r)->lF A.Ac (upd H z.tw (.lst ((s.tf.map oV).set i .non))) v (some r):=λv r hb h=>yO f4 h λq e z9=>by cases e;exact hb (by rw[z9];exact TL (f:=true))
   generalize upd H z.tw _=J at *
   obtain⟨dx9,h9⟩:=S1.me
   obtain⟨dx8,vs8,e1,e2,e3,e4,e5⟩:=id S1.sl
   have e4:J z.ts=some (.lst (s.ts.map oV)):=e4
   have e5:s.ts.length=s.sr.length:=e5
   refine⟨_,dx9,_,h9,T.Ab,T.Ah,_,qI,z.sq,rfl,_,dx8,_,e1,T.Ae,T.Ai,_,KI,z.ts,rfl,_,(j:Int),rfl,e4,j,DH (by rw[lA];omega),?_⟩
   exact q _ (S1.tie (f:=false) (j:=j) (o:=none)) (AO (f:=false) k1) λv r hb h=>yO e4 (w1 v r hb h) λq e z9=>by cases e;exact hb (by rw[z9];exact TL (f:=false))
structure Tw (s:St):Prop where
 there:∀i j:Nat,s.tf[i]?=some (some j)->s.ts[j]?=some (some i)
 back:∀i j:Nat,s.ts[j]?=some (some i)->s.tf[i]?=some (some j)
 full:∀i j:Nat,s.tf[i]?=some (some j)->∃r,s.fr[i]?=some (some r)
 bare:∀i j:Nat,s.ts[j]?=some (some i)->s.sr[j]?=some none
theorem oJ {s:St} {i:Nat}:(untie s i).fr=s.fr/\(untie s i).sr=s.sr/\(untie s i).h=s.h/\(untie s i).go=s.go/\(untie s i).ga=s.ga/\(untie s i).cb=s.cb:=by
 unfold untie
 split<;>exact⟨rfl,rfl,rfl,rfl,rfl,rfl⟩
noncomputable def kH (s:St) (j:Nat):St:=match s.ts[j]? with
 |some (some k)=>untie s k
 |_=>s
theorem BO {s:St} {j:Nat}:(kH s j).fr=s.fr/\(kH s j).sr=s.sr/\(kH s j).h=s.h/\(kH s j).go=s.go/\(kH s j).ga=s.ga/\(kH s j).cb=s.cb:=by
 unfold kH
 split
 ·exact oJ
 ·exact⟨rfl,rfl,rfl,rfl,rfl,rfl⟩
noncomputable def OF (s:St) (i j:Nat):St:={s with go:=s.go+1,ga:=if s.tf[i]?=some (some j) then s.ga else s.ga+1}
noncomputable def XF (s:St) (i j:Nat) (r:Sh):St:=((kH (OF s i j) j).put false j (some r)).put true i none
theorem oK {s:St} {i j:Nat} {r:Sh}:(XF s i j r).fr=s.fr.set i none/\(XF s i j r).sr=s.sr.set j (some r)/\(XF s i j r).h=s.h/\(XF s i j r).go=s.go+1/\(XF s i j r).ga=(if s.tf[i]?=some (some j) then s.ga else s.ga+1)/\(XF s i j r).cb=s.cb/\(XF s i j r).tf=(kH s j).tf/\(XF s i j r).ts=(kH s j).ts:=by
 have e:kH (OF s i j) j={kH s j with go:=s.go+1,ga:=if s.tf[i]?=some (some j) then s.ga else s.ga+1}:=by
  have eu:∀k,untie (OF s i j) k={untie s k with go:=s.go+1,ga:=if s.tf[i]?=some (some j) then s.ga else s.ga+1}:=λk=>by
   unfold untie
   show (match s.tf[k]? with|some (some j2)=>((OF s i j).tie true k none).tie false j2 none|_=>OF s i j)=_
   cases e2:s.tf[k]? with
   |none=>rfl
   |some u=>cases u with
    |none=>rfl
    |some l=>rfl
  unfold kH
  show (match s.ts[j]? with|some (some k)=>untie (OF s i j) k|_=>OF s i j)=_
  cases e1:s.ts[j]? with
  |none=>rfl
  |some u=>cases u with
   |none=>rfl
   |some k=>exact eu k
 unfold XF
 rw[e]
 exact⟨by show (kH s j).fr.set i none=_;rw[BO.1],by show (kH s j).sr.set j (some r)=_;rw[BO.2.1],BO.2.2.1,rfl,rfl,BO.2.2.2.2.2,rfl,rfl⟩
noncomputable def zN (C P S:Addr):Sp:=λvs H Q _=>∃(z:Ss) (s:St) (i j:Nat) (c:Option Nat) (r:Sh),vs=[.ref z.p,.int i,oV c]/\yE C P S H z s/\Tw s/\s.fr[i]?=some (some r)/\cJ r/\j < s.sr.length/\ZE s i c=some j/\
 ∀H' t l,yE C P S H' z (XF s i j r)->H' t=some (.tup [.int j,.ref l])->VH H' l (JF r.ks)->l∉z.four->Ks z H H'->Q (.ref t) H'
theorem jQ (T:bG K mg A):RE P w K mg base A.Aa "put_out" 3 ["self","frame","coming_from"] [] (zN A.Aa A.Ad A.Ac):=by
 have Cz:=HU (P:=P) (w:=w) (base:=base) T
 have Ay:=S0 (P:=P) (w:=w) (base:=base) T
 have Ak:=SR (P:=P) (w:=w) (base:=base) T
 refine T.Df.have iU (λvs H Q E z=>?_) ?_
 ·obtain⟨z,s,i,j,v,r,rfl,_⟩:=z;rfl
 ·intro f cdv A' outer s H vs Q E hr z
  obtain⟨z,s,i,j,c,r,rfl,hS,hT,hri,hok,hj,hsf,q⟩:=z
  obtain⟨dx,h1⟩:=hS.me
  obtain⟨dx1,vs1,f1,f2,f3,f4,f5⟩:=id hS.fr
  obtain⟨dx2,vs2,g1',g2',g3',g4',g5'⟩:=id hS.sl
  obtain⟨v1,hv1,rfl,⟨dxr,g1⟩,g2,g3⟩:=BJ f3 hri
  have hil:=(aA.mp hri).1
  have hbr:r.bx∉z.four:=hS.bx r (.inl (dA hri))
  obtain⟨o,ho⟩:∃o,s.tf[i]?=some o:=⟨_,bA (by omega)⟩
  have hat:jJ (s.tf.map oV) (i:Int)=some (oV o):=HE (by rw[NA,ho];rfl)
  obtain⟨u,hu⟩:∃u,s.ts[j]?=some u:=⟨_,bA (by omega)⟩
  have hau:jJ (s.ts.map oV) (j:Int)=some (oV u):=HE (by rw[NA,hu];rfl)
  refine⟨_,(iF (xF (i:=3) iU.nd rfl (Or.inl rfl) (IE eF (YE (YE (pE 0) rfl) rfl) (pE 1) (λ_ _=>rfl)))
   (zF (xF (i:=4) iU.nd rfl (Or.inl rfl) (iI (pE 0) T.Ab Cz (hr.mono (by decide)) nF (sE (pE 1) (sE (pE 2) zE))))
   (zF (SI (pE 0) (jF PH (YE (pE 0) rfl) EE) rfl)
   (zF (VF (BF vS (pE 4) (IE eF (YE (YE (pE 0) rfl) rfl) (pE 1) (λ_ _=>rfl)) (uE _)) (ME (SI (pE 0) (jF PH (YE (pE 0) rfl) EE) rfl)) mG)
   (zF (VF (BF cI (IE eF (YE (YE (pE 0) rfl) rfl) (pE 4) (λ_ _=>rfl)) wF (uE _)) (ME (qH (iI (pE 0) T.Ab Ay (hr.mono (by decide)) nF (sE (IE eF (YE (YE (pE 0) rfl) rfl) (pE 4) (λ_ _=>rfl)) zE)))) mG)
   (zF (IH (pE 3) (GH (YE (YE (pE 0) rfl) rfl) (pE 4) JH))
   (zF (IH wF (GH (YE (YE (pE 0) rfl) rfl) (pE 1) JH))
   (ME (KF (mH (sE (pE 4) (sE (KH (pE 3) T.An Ak (hr.mono (by decide)) nF) zE)))))))))))),?_⟩
  walk_at "wp"
  simp only[h1]
  walk_at "wp"
  refine⟨T.Ab,T.Af,_,LH,z.fp,rfl,_,dx1,_,f1,T.Ae,T.Ag,_,AH,z.ly,rfl,_,xE.of f2,_,HE hv1,?_⟩
  refine⟨λσ G=>σ=[some (.ref z.p),some (.int i),some (oV c),some (.ref r.sh),some (.int j)]/\vE H G,?_,λσ1 G1=>?_⟩
  ·walk_at "wp"
   exact⟨dx,_,h1,UG (by decide+kernel),z,s,i,c,rfl,hS,hil,λH' s1=>⟨by rw[hsf];rfl,s1⟩⟩
  rintro⟨rfl,s1⟩
  have hS1:=hS.same s1
  have sh1:lF A.Ac G1 (.ref r.sh) (some r):=lF.same s1 ⟨rfl,⟨dxr,g1⟩,g2,g3⟩
  have k1:Ks z H G1:=Ks.of s1
  clear s1
  refine⟨λσ G=>σ=[some (.ref z.p),some (.int i),some (oV c),some (.ref r.sh),some (.int j)]/\yE A.Aa A.Ad A.Ac G z {s with go:=s.go+1}/\Ks z H G/\lF A.Ac G (.ref r.sh) (some r),?_,λσ2 G2=>?_⟩
  ·obtain⟨dx9,h9⟩:=hS1.me
   walk_at "wp"
   refine⟨_,dx9,_,h9,T.Ab,T.As,_,x0,s.go,rfl,_,dx9,_,h9,T.Ab,T.As,by show 7 < 1000;decide,?_⟩
   rw[tN]
   exact⟨hS1.num h9 rfl rfl hS1.hh rfl rfl,TR k1,R0 h9 sh1⟩
  rintro⟨rfl,hS2,k2,sh2⟩
  clear hS1 sh1 k1
  refine⟨λσ G=>σ=[some (.ref z.p),some (.int i),some (oV c),some (.ref r.sh),some (.int j)]/\yE A.Aa A.Ad A.Ac G z (OF s i j)/\Ks z H G/\lF A.Ac G (.ref r.sh) (some r),?_,λσ3 G3=>?_⟩
  ·obtain⟨dx9,h9⟩:=hS2.me
   obtain⟨dx8,vs8,e1,e2,e3,e4,e5⟩:=id hS2.fr
   walk_at "wp"
   have fin:s.tf[i]?≠some (some j)->yE A.Aa A.Ad A.Ac (upd G2 z.p (.ins A.Aa dx9 (gH z.n z.fp z.sq {s with go:=s.go+1,ga:=s.ga+1}))) z (OF s i j):=λhn=>by
    have e:OF s i j={s with go:=s.go+1,ga:=s.ga+1}:=by unfold OF;rw[fA hn]
    rw[e]
    exact hS2.num h9 rfl rfl hS2.hh rfl rfl
   refine⟨_,dx9,_,h9,T.Ab,T.Af,_,LH,z.fp,rfl,_,dx8,_,e1,T.Ae,T.Ai,_,KI,z.tw,rfl,_,xE.of e4,oV o,hat,?_⟩
   refine⟨by cases o<;>rfl,?_⟩
   by_cases c9:o=some j
   ·subst c9
    have e:OF s i j={s with go:=s.go+1}:=by unfold OF;rw[iA ho]
    rw[e]
    exact KJ (by rw[AA (show V.int (j:Int)=oV (some j) from rfl)];rfl) ⟨hS2,k2,sh2⟩
   ·have hne:¬(V.int (j:Int)=oV o):=λe=>c9 (by
     cases o with
     |none=>cases e
     |some k=>have:(j:Int)=k:=V.int.inj e;rw[show k=j by omega])
    refine EI (by rw[vA hne];rfl) ⟨_,dx9,_,h9,T.Ab,T.Aq,_,I0,s.ga,rfl,_,dx9,_,h9,T.Ab,T.Aq,by show 7 < 1000;decide,?_⟩
    rw[uN]
    exact⟨fin (λz=>c9 (by rw[ho] at z;exact cA z)),TR k2,R0 h9 sh2⟩
  rintro⟨rfl,hS3,k3,sh3⟩
  clear hS2 sh2 k2
  have hcl:(kH (OF s i j) j).sr=s.sr/\(kH (OF s i j) j).fr=s.fr:=⟨BO.2.1,BO.1⟩
  refine⟨λσ G=>σ=[some (.ref z.p),some (.int i),some (oV c),some (.ref r.sh),some (.int j)]/\yE A.Aa A.Ad A.Ac G z (kH (OF s i j) j)/\Ks z H G/\lF A.Ac G (.ref r.sh) (some r),?_,λσ4 G4=>?_⟩
  ·obtain⟨dx9,h9⟩:=hS3.me
   obtain⟨dx8,vs8,e1,e2,e3,e4,e5⟩:=id hS3.sl
   walk_at "wp"
   refine⟨_,dx9,_,h9,T.Ab,T.Ah,_,qI,z.sq,rfl,_,dx8,_,e1,T.Ae,T.Ai,_,KI,z.ts,rfl,_,xE.of e4,oV u,hau,?_⟩
   cases u with
   |none=>
    rw[AA (show oV none=V.non from rfl)]
    refine gF ⟨?_,k3,sh3⟩
    have e:kH (OF s i j) j=OF s i j:=by
     unfold kH
     rw[show (OF s i j).ts[j]?=some none from hu]
    rw[e]
    exact hS3
   |some k=>
    rw[vA (show ¬(oV (some k)=V.non) from λz=>nomatch z)]
    have e:kH (OF s i j) j=untie (OF s i j) k:=by
     unfold kH
     rw[show (OF s i j).ts[j]?=some (some k) from hu]
    have htk:=hT.back k j hu
    refine oG ⟨dx9,_,h9,UG (by decide+kernel),_,dx9,_,h9,T.Ab,T.Ah,_,qI,z.sq,rfl,_,dx8,_,e1,T.Ae,T.Ai,_,KI,z.ts,rfl,_,xE.of e4,oV (some k),hau,z,OF s i j,k,rfl,hS3,?_,λj2 h2=>?_,λH' a1 a2 a3=>⟨by rw[e];exact a1,k3.trans a2,a3 _ _ hbr sh3⟩⟩
    ·have:k < s.tf.length:=(aA.mp htk).1
     show k < s.fr.length
     omega
    ·have h2:s.tf[k]?=some (some j2):=h2
     rw[htk] at h2
     have:j=j2:=cA (cA h2)
     show j2 < s.sr.length
     omega
  rintro⟨rfl,hS4,k4,sh4⟩
  clear hS3 sh3 k3
  refine⟨λσ G=>σ=[some (.ref z.p),some (.int i),some (oV c),some (.ref r.sh),some (.int j)]/\yE A.Aa A.Ad A.Ac G z ((kH (OF s i j) j).put false j (some r))/\Ks z H G/\lF A.Ac G (.ref r.sh) (some r),?_,λσ5 G5=>?_⟩
  ·obtain⟨dx9,h9⟩:=hS4.me
   obtain⟨dx8,vs8,e1,e2,e3,e4,e5⟩:=id hS4.sl
   have l8:=Paired.length e3
   rw[hcl.1] at l8
   walk_at "wp"
   refine⟨_,dx9,_,h9,T.Ab,T.Ah,_,qI,z.sq,rfl,_,dx8,_,e1,T.Ae,T.Ag,_,AH,z.ls,rfl,vs8,e2,j,DH (by rw[l8];exact hj),?_⟩
   exact⟨hS4.set (f:=false) (j:=j) (r:=some r) e2 sh4 (λq e=>by cases e;exact hbr),YL (f:=false) k4,yO e2 sh4 λq e z9=>by cases e;exact hbr (by rw[z9];exact IJ (f:=false))⟩
  rintro⟨rfl,hS5,k5,sh5⟩
  clear hS4 sh4 k4
  refine⟨λσ G=>σ=[some (.ref z.p),some (.int i),some (oV c),some (.ref r.sh),some (.int j)]/\yE A.Aa A.Ad A.Ac G z (XF s i j r)/\Ks z H G/\lF A.Ac G (.ref r.sh) (some r),?_,λσ6 G6=>?_⟩
  ·obtain⟨dx9,h9⟩:=hS5.me
   obtain⟨dx8,vs8,e1,e2,e3,e4,e5⟩:=id hS5.fr
   have l8:vs8.length=s.fr.length:=by rw[<-hcl.2];exact Paired.length e3
   walk_at "wp"
   refine⟨_,dx9,_,h9,T.Ab,T.Af,_,LH,z.fp,rfl,_,dx8,_,e1,T.Ae,T.Ag,_,AH,z.ly,rfl,vs8,e2,i,DH (by rw[l8];exact hil),?_⟩
   exact⟨hS5.set (f:=true) (j:=i) (r:=none) e2 rfl (λq e=>nomatch e),YL (f:=true) k5,yO e2 sh5 λq e z9=>by cases e;exact hbr (by rw[z9];exact IJ (f:=true))⟩
  rintro⟨rfl,hS6,k6,sh6⟩
  obtain⟨_,⟨dx9,h9⟩,_⟩:=id sh6
  walk_at "wp"
  refine⟨dx9,_,h9,RL (by decide+kernel),_,r,rfl,sh6,hok,λl G7 hl s7 htd t ht=>?_⟩
  have s8:vE G7 (upd G7 t (.tup [V.int (j:Int),V.ref l])):=WF sF ht
  exact q _ t l ((hS6.same s7).same s8) bF (htd.same s8) (hS6.nf hl) ((k6.trans (Ks.of s7)).trans (Ks.of s8))
theorem CO {rows:List (Option Sh)} {tws:List (Option Nat)} {j:Nat} (h:pG rows tws=some j):rows[j]?=some none/\tws[j]?=some none:=by
 obtain⟨hj,h1,_⟩:=pC.mp h
 have e:=bA hj
 obtain⟨e1,e2⟩:=OB.mp e
 generalize (rows.zip tws)[j]=p at *
 obtain⟨a,b⟩:=p
 cases a with
 |some r=>cases h1
 |none=>cases b with
  |some k=>cases h1
  |none=>exact⟨e1,e2⟩
theorem T0 {rows:List (Option Sh)} {tws:List (Option Nat)} (h:pG rows tws=none) (hl:tws.length=rows.length) {j:Nat} (hj:j < rows.length):(∃r,rows[j]?=some (some r))\/∃t,tws[j]?=some (some t):=by
 have hz:j < (rows.zip tws).length:=by rw[List.length_zip];omega
 have h1:=SD.mp h _ (BD hz)
 obtain⟨e1,e2⟩:=OB.mp (bA hz)
 generalize (rows.zip tws)[j]=p at *
 obtain⟨a,b⟩:=p
 cases a with
 |some r=>exact .inl ⟨r,e1⟩
 |none=>cases b with
  |some k=>exact .inr ⟨k,e2⟩
  |none=>cases h1
theorem U0 {rows:List (Option Sh)} {tws:List (Option Nat)} {j:Nat} (h1:rows[j]?=some none) (h2:tws[j]?=some none) (h3:∀k < j,(∃r,rows[k]?=some (some r))\/∃t,tws[k]?=some (some t)):pG rows tws=some j:=by
 have e:(rows.zip tws)[j]?=some (none,none):=OB.mpr ⟨h1,h2⟩
 obtain⟨hz,e1⟩:=aA.mp e
 refine pC.mpr ⟨hz,by rw[e1];rfl,λk hk=>?_⟩
 obtain⟨e3,e4⟩:=OB.mp (bA (Nat.lt_trans hk hz))
 generalize (rows.zip tws)[k]=p at *
 obtain⟨a,b⟩:=p
 rcases h3 k hk with ⟨r,hr⟩|⟨t,ht⟩
 ·rw[e3] at hr;have hr:a=some r:=cA hr;subst hr;simp
 ·rw[e4] at ht;have ht:b=some t:=cA ht;subst ht;simp
theorem V0 {rows:List (Option Sh)} {tws:List (Option Nat)} (h3:∀k < rows.length,(∃r,rows[k]?=some (some r))\/∃t,tws[k]?=some (some t)):pG rows tws=none:=by
 cases e:pG rows tws with
 |none=>rfl
 |some j=>
  obtain⟨e1,e2⟩:=CO e
  rcases h3 j (aA.mp e1).1 with ⟨r,hr⟩|⟨t,ht⟩
  ·rw[e1] at hr;cases hr
  ·rw[e2] at ht;cases ht
theorem Tw.all {s:St} (hT:Tw s) (hl:s.tf.length=s.fr.length) (h:pG s.fr s.tf=none) {i:Nat} (hi:i < s.fr.length):∃r,s.fr[i]?=some (some r):=by
 rcases T0 h hl hi with h|⟨t,ht⟩
 ·exact h
 ·exact hT.full i t ht
theorem W0 {l:List (Option Nat)} {j:Nat} (h:CH l=some j):∃i:Nat,l[i]?=some (some j)/\∀k < i,l[k]?=some none:=by
 induction l with
 |nil=>cases h
 |cons x r ih=>
  cases x with
  |none=>
   obtain⟨i,h1,h2⟩:=ih h
   refine⟨i+1,by simpa using h1,λk hk=>?_⟩
   cases k with
   |zero=>rfl
   |succ k=>simpa using h2 k (by omega)
  |some y=>
   have h:some y=some j:=h
   exact⟨0,by rw[h];rfl,λk hk=>absurd hk (xC _)⟩
theorem X0 {l:List (Option Nat)} (h:CH l=none) {i:Nat} (hi:i < l.length):l[i]?=some none:=by
 have:=OD.mp h _ (BD hi)
 rw[bA hi]
 exact congrArg some this
noncomputable def cl (j:Nat) (o:Option Nat):Option Nat:=if o=some j then none else o
theorem ma {j b:Nat} {o:Option Nat}:cl j o=some b↔o=some b/\b≠j:=by
 unfold cl
 split
 ·rename_i h
  subst h
  constructor
  ·intro h;cases h
  ·rintro⟨h,hn⟩
   exact absurd (cA h).symm hn
 ·rename_i h
  exact⟨λe=>⟨e,λe2=>h (by rw[e,e2])⟩,λe=>e.1⟩
theorem UR {j a b:Nat} {l:List (Option Nat)}:(l.map (cl j))[a]?=some (some b)↔l[a]?=some (some b)/\b≠j:=by
 rw[NA]
 cases l[a]? with
 |none=>exact⟨(λh=>by cases h),λh=>by cases h.1⟩
 |some o=>
  show some (cl j o)=some (some b)↔some o=some (some b)/\b≠j
  rw[Option.some_inj,Option.some_inj]
  exact ma
theorem FI {j a b:Nat} {l:List (Option Nat)}:(l.set j none)[b]?=some (some a)↔l[b]?=some (some a)/\b≠j:=by
 rw[qA]
 by_cases c:j=b
 ·subst c
  rw[iA rfl]
  split
  ·exact⟨(λh=>by cases h),λh=>absurd rfl h.2⟩
  ·exact⟨(λh=>by cases h),λh=>absurd rfl h.2⟩
 ·rw[fA c]
  exact⟨λh=>⟨h,λe=>c e.symm⟩,λh=>h.1⟩
theorem VR {j:Nat} {l:List (Option Nat)} (h:∀a:Nat,l[a]?≠some (some j)):l.map (cl j)=l:=by
 refine qD λa=>?_
 rw[NA]
 cases e:l[a]? with
 |none=>rfl
 |some o=>
  show some (cl j o)=some o
  unfold cl
  rw[fA (λz=>h a (by rw[e,z]))]
theorem WR {s:St} {j:Nat} (hT:Tw s):(kH s j).tf=s.tf.map (cl j)/\(kH s j).ts=s.ts.set j none:=by
 unfold kH
 cases e:s.ts[j]? with
 |none=>
  have e2:∀a:Nat,s.tf[a]?≠some (some j):=λa h=>by have:=hT.there a j h;rw[e] at this;cases this
  exact⟨(VR e2).symm,(List.set_eq_of_length_le (rC.mp e)).symm⟩
 |some u=>
  cases u with
  |none=>
   have e2:∀a:Nat,s.tf[a]?≠some (some j):=λa h=>by have:=hT.there a j h;rw[e] at this;cases this
   refine⟨(VR e2).symm,?_⟩
   obtain⟨h1,h2⟩:=aA.mp e
   show s.ts=s.ts.set j none
   rw[<-h2,yB]
  |some k=>
   have hk:=hT.back k j e
   show (untie s k).tf=_/\(untie s k).ts=_
   have eu:untie s k=(s.tie true k none).tie false j none:=by
    unfold untie
    rw[hk]
   rw[eu]
   refine⟨?_,rfl⟩
   show s.tf.set k none=s.tf.map (cl j)
   refine qD λa=>?_
   rw[qA,NA]
   by_cases c:k=a
   ·subst c
    rw[iA rfl,iA (aA.mp hk).1,hk]
    show some none=some (cl j (some j))
    unfold cl
    rw[iA rfl]
   ·rw[fA c]
    cases e9:s.tf[a]? with
    |none=>rfl
    |some o=>
     show some o=some (cl j o)
     unfold cl
     rw[fA (λz=>?_)]
     rw[z] at e9
     have:=hT.there a j e9
     rw[e] at this
     exact c (cA (cA this))
theorem Tw.out {s:St} {i j:Nat} {r:Sh} (hT:Tw s) (h:∀b,s.tf[i]?=some (some b)->b=j):Tw (XF s i j r)/\∀b,(XF s i j r).tf[i]?≠some (some b):=by
 obtain⟨e1,e2,_,_,_,_,e7,e8⟩:=oK (s:=s) (i:=i) (j:=j) (r:=r)
 obtain⟨c1,c2⟩:=WR (j:=j) hT
 have hn:∀b,(s.tf.map (cl j))[i]?≠some (some b):=λb z=>by
  obtain⟨z1,z2⟩:=UR.mp z
  exact z2 (h b z1)
 refine⟨⟨λa b hab=>?_,λa b hab=>?_,λa b hab=>?_,λa b hab=>?_⟩,λb=>by rw[e7,c1];exact hn b⟩
 ·rw[e7,c1] at hab
  obtain⟨z1,z2⟩:=UR.mp hab
  rw[e8,c2]
  exact FI.mpr ⟨hT.there a b z1,z2⟩
 ·rw[e8,c2] at hab
  obtain⟨z1,z2⟩:=FI.mp hab
  rw[e7,c1]
  exact UR.mpr ⟨hT.back a b z1,z2⟩
 ·rw[e7,c1] at hab
  have hai:a≠i:=λe=>hn b (by rw[<-e];exact hab)
  obtain⟨z1,z2⟩:=UR.mp hab
  rw[e1,qA,fA (Ne.symm hai)]
  exact hT.full a b z1
 ·rw[e8,c2] at hab
  obtain⟨z1,z2⟩:=FI.mp hab
  rw[e2,qA,fA (Ne.symm z2)]
  exact hT.bare a b z1
theorem YR {s:St} {i j b:Nat} {c:Option Nat} (h:ZE s i c=some j) (hb:s.tf[i]?=some (some b)):b=j:=by
 unfold ZE at h
 rw[hb] at h
 exact cA h
theorem kQ {s:St} {i j:Nat} {c:Option Nat} (hT:Tw s) (h:ZE s i c=some j):s.sr[j]?=some none\/(c=some j/\(∀b,s.tf[i]?≠some (some b))/\pG s.sr s.ts=none/\CH s.tf=none):=by
 unfold ZE at h
 have go:(∀b,s.tf[i]?≠some (some b))->(match pG s.sr s.ts with|some j=>some j|none=>match CH s.tf with|some j=>some j|none=>c)=some j->s.sr[j]?=some none\/(c=some j/\(∀b,s.tf[i]?≠some (some b))/\pG s.sr s.ts=none/\CH s.tf=none):=λhn h=>by
  cases e1:pG s.sr s.ts with
  |some j2=>
   rw[e1] at h
   obtain rfl:j2=j:=cA h
   exact .inl (CO e1).1
  |none=>
   rw[e1] at h
   cases e2:CH s.tf with
   |some j2=>
    rw[e2] at h
    obtain rfl:j2=j:=cA h
    obtain⟨a,ha,_⟩:=W0 e2
    exact .inl (hT.bare a _ (hT.there a _ ha))
   |none=>
    rw[e2] at h
    exact .inr ⟨h,hn,rfl,rfl⟩
 cases e:s.tf[i]? with
 |none=>rw[e] at h;exact e ▸ go (λb z=>by rw[e] at z;cases z) h
 |some u=>
  cases u with
  |none=>rw[e] at h;exact e ▸ go (λb z=>by rw[e] at z;cases z) h
  |some b=>
   rw[e] at h
   obtain rfl:b=j:=cA h
   exact .inl (hT.bare i _ (hT.there i _ e))
theorem IU {s:St} {i:Nat} {c:Option Nat} (hT:Tw s) (hl:s.ts.length=s.sr.length) (hc:pG s.sr s.ts=none->CH s.tf=none->∃j,c=some j/\j < s.sr.length):∃j,ZE s i c=some j/\j < s.sr.length:=by
 have tl:∀{a j:Nat},s.tf[a]?=some (some j)->j < s.sr.length:=λh=>by
  have:=(aA.mp (hT.there _ _ h)).1
  omega
 have go:∃j,(match pG s.sr s.ts with|some j=>some j|none=>match CH s.tf with|some j=>some j|none=>c)=some j/\j < s.sr.length:=by
  cases e1:pG s.sr s.ts with
  |some j2=>exact⟨j2,rfl,(aA.mp (CO e1).1).1⟩
  |none=>
   cases e2:CH s.tf with
   |some j2=>obtain⟨a,ha,_⟩:=W0 e2;exact⟨j2,rfl,tl ha⟩
   |none=>exact hc e1 e2
 unfold ZE
 cases e:s.tf[i]? with
 |none=>exact go
 |some u=>
  cases u with
  |none=>exact go
  |some b=>exact⟨b,rfl,tl e⟩
theorem Y0 {rows:List (Option Sh)} (h:∀j < rows.length,∃r,rows[j]?=some (some r)):yG rows=rows.length:=by
 unfold yG
 rw[List.filter_eq_self.mpr λo ho=>by
  obtain⟨j,hj⟩:=dB.mp ho
  obtain⟨r,hr⟩:=h j (aA.mp hj).1
  rw[hj] at hr
  have:o=some r:=cA hr
  subst this
  rfl]
theorem JU {s:St} (hT:Tw s) (l1:s.tf.length=s.fr.length) (l2:s.ts.length=s.sr.length) (h:FF s < room s) (e:pG s.fr s.tf=none) {i:Nat} {c:Option Nat}:∃j,ZE s i c=some j/\j < s.sr.length:=IU hT l2 λe1 e2=>by
 unfold FF room at h
 rw[Y0 λj hj=>hT.all l1 e hj,Y0 λj hj=>?_] at h
 ·omega
 ·rcases T0 e1 l2 hj with h|⟨t,ht⟩
  ·exact h
  ·have hb:=hT.back _ _ ht
   have:=X0 e2 (aA.mp hb).1
   rw[this] at hb
   cases hb
noncomputable def dG (F:List Addr) (H:Hp) (v:V):Option (Nat×Sh)->Prop
 |none=>v=.non
 |some (j,q)=>∃o l,v=.ref o/\H o=some (.tup [.int (j:Int),.ref l])/\VH H l (JF q.ks)/\l∉F
theorem dG.keep {F:List Addr} {H H':Hp} {v:V} (k:∀c us,H c=some (.tup us)\/(H c=some (.lst us)/\c∉F)->H' c=H c):∀{o:Option (Nat×Sh)},dG F H v o->dG F H' v o
 |none,h=>h
 |some (_,_),⟨o,l,e,h1,⟨us,h2,h3⟩,h4⟩=>⟨o,l,e,(k _ _ (.inl h1)).trans h1,⟨us,(k _ _ (.inr ⟨h2,h4⟩)).trans h2,Paired.mapP h3 λ_ _ ⟨a,e,q⟩=>⟨a,e,(k _ _ (.inl q)).trans q⟩⟩,h4⟩
theorem dG.same {F:List Addr} {H H':Hp} {v:V} {o:Option (Nat×Sh)} (h:dG F H v o) (s:vE H H'):dG F H' v o:=h.keep λc us hc=>by
 rcases hc with hc|hc
 ·rw[hc];exact s _ _ hc
 ·rw[hc.1];exact s _ _ hc.1
noncomputable def wH (s:St) (c:Option Nat) (ms:List Bool) (s1:St) (i:Nat) (ps:List Int) (out:Option (Nat×Sh)):Prop:=
 (pG s.fr s.tf=some i/\s1=s/\ps=[]/\out=none)\/
 (pG s.fr s.tf=none/\∃(q:Sh) (j:Nat),QK ms s.h i ps/\s.fr[i]?=some (some q)/\ZE s i c=some j/\j < s.sr.length/\s1=XF {s with h:=(i+1) % s.fr.length} i j q/\out=some (j,q))
noncomputable def lQ (C P S:Addr):Sp:=λvs H Q _=>∃(z:Ss) (s:St) (c:Option Nat) (m:Addr) (ms:List Bool),vs=[.ref z.p,oV c,.ref m]/\yE C P S H z s/\Tw s/\H m=some (.lst (ms.map V.bl))/\ms.length=s.fr.length/\
 (pG s.fr s.tf=none->(∀i,∃j:Nat,ZE s i c=some j/\j < s.sr.length)/\∀r,some r∈s.fr->cJ r)/\
 ∀H' s1 i ps out t e v3,wH s c ms s1 i ps out->yE C P S H' z s1->H' t=some (.tup [.int (i:Int),.ref e,v3])->H' e=some (.lst (ps.map V.int))->dG z.four H' v3 out->e∉z.four->Ks z H H'->Q (.ref t) H'
theorem Tw.hand {s:St} {h:Nat} (t:Tw s):Tw {s with h:=h}:=⟨t.there,t.back,t.full,t.bare⟩
theorem mQ (T:bG K mg A):RE P w K mg base A.Aa "frame_for" 4 ["self","coming_from","marks"] [] (lQ A.Aa A.Ad A.Ac):=by
 have Ax:=eQ (P:=P) (w:=w) (base:=base) T
 have F5:=yU (P:=P) (w:=w) (base:=base) T
 have Dl:=jQ (P:=P) (w:=w) (base:=base) T
 refine T.B8.have gU (λvs H Q E z=>?_) ?_
 ·obtain⟨z,s,c,m,ms,rfl,_⟩:=z;rfl
 ·intro f cdv A' outer s H vs Q E hr z
  obtain⟨z,s,c,m,ms,rfl,hS,hT,hm,hml,hfu,q⟩:=z
  obtain⟨dx,h1⟩:=hS.me
  obtain⟨dx1,vs1,f1,f2,f3,f4,f5⟩:=id hS.fr
  have nf:∀{e:Addr},H e=none->e∉z.four:=λhe=>hS.nf he
  refine⟨_,(iF (xF (i:=3) gU.nd rfl (Or.inl rfl) (KH (YE (pE 0) rfl) T.Ae Ax (hr.mono (by decide)) nF))
   (iF (VF (BF cI (pE 3) wF (uE _)) (ME (KF (mH (sE (pE 3) (sE (lH zE) (sE wF zE)))))) mG)
   (zF (xF (i:=4) gU.nd rfl (Or.inl rfl) (DG F5 (hr.mono (by decide)) nF (sE (pE 2) (sE (YE (pE 0) rfl) zE))))
   (zF (SI (pE 0) (jF VG (jF PH (IE CG (pE 4) EE (λ_ _=>rfl)) EE) (QF MG rfl T.Aj PySem.boot_len (sE (YE (YE (pE 0) rfl) rfl) zE))) rfl)
   (ME (KF (mH (sE (IE CG (pE 4) EE (λ_ _=>rfl)) (sE (IE CG (pE 4) EE (λ_ _=>rfl)) (sE (iI (pE 0) T.Ab Dl (hr.mono (by decide)) nF (sE (IE CG (pE 4) EE (λ_ _=>rfl)) (sE (pE 1) zE))) zE)))))))))),?_⟩
  unfold UL
  walk_at "wp"
  simp only[h1]
  walk_at "wp"
  refine⟨T.Ab,T.Af,_,LH,z.fp,rfl,dx1,_,f1,xO (by decide+kernel),z.fp,rfl,z.ly,z.tw,s.fr,s.tf,hS.fr,λH1 s1=>?_⟩
  unfold fe
  cases e9:pG s.fr s.tf with
  |some i=>
   rw[vA (λz=>nomatch z)]
   refine oG λe1 he1 t1 ht1=>?_
   have b1:=WF (o:=.lst []) (sF (H:=H1)) he1
   have b2:=WF (o:=.tup [V.int (i:Int),V.ref e1,V.non]) (sF (H:=upd H1 e1 (.lst []))) ht1
   exact q _ s i [] none t1 e1 .non (.inl ⟨e9,rfl,rfl,rfl⟩) (((hS.same s1).same b1).same b2) bF (b2 _ _ bF) rfl (nf (cG s1 he1)) (Ks.of ((s1.trans b1).trans b2))
  |none=>
   rw[AA (rfl:V.non=V.non)]
   obtain⟨hsl,hok⟩:=hfu e9
   have hS1:=hS.same s1
   refine gF ⟨λσ G=>∃i t e ps,σ=[some (.ref z.p),some (oV c),some (.ref m),some .non,some (.ref t)]/\vE H1 G/\QK ms s.h i ps/\i < s.fr.length/\G t=some (.tup [.int (i:Int),.ref e])/\G e=some (.lst (ps.map V.int))/\H1 e=none,?_,λσ2 G2=>?_⟩
   ·obtain⟨dx9,h9⟩:=hS1.me
    walk_at "wp"
    have hh:=hS.hh
    have hl64:=hS.len.1
    refine⟨_,dx9,_,h9,T.Ab,T.A0,_,bQ,m,s.h,ms,rfl,xE.of (s1 _ _ hm),by omega,by omega,by omega,λt u k H' s9 ht hu hk ha hb ht' hu'=>?_⟩
    have hp:(0:Int) < (ms.length:Int):=by omega
    have h0:=vC ((s.h:Int)+(k:Int)) (Int.ne_of_gt hp)
    have h2:=EC ((s.h:Int)+(k:Int)) hp
    refine⟨(((s.h:Int)+(k:Int)) % (ms.length:Int)).toNat,t,rfl,s9,u,rg ms.length s.h k,⟨k,hk,ha,hb,by omega,rfl⟩,by omega,?_,hu',hu⟩
    rw[show (((((s.h:Int)+(k:Int)) % (ms.length:Int)).toNat:Nat):Int)=((s.h:Int)+(k:Int)) % (ms.length:Int) by omega]
    exact ht'
   rintro⟨i,t,e,ps,rfl,s2,hsw,hil,ht2,he2,he0⟩
   have hS2:=hS1.same s2
   refine⟨λσ G=>σ=[some (.ref z.p),some (oV c),some (.ref m),some .non,some (.ref t)]/\yE A.Aa A.Ad A.Ac G z {s with h:=(i+1) % s.fr.length}/\Ks z H G/\G t=some (.tup [.int (i:Int),.ref e])/\G e=some (.lst (ps.map V.int)),?_,λσ3 G3=>?_⟩
   ·obtain⟨dx9,h9⟩:=hS2.me
    obtain⟨dx8,vs8,e1,e2,e3,e4,_⟩:=id hS2.fr
    have l8:=Paired.length e3
    have hmod:((i:Int)+1) % (vs8.length:Int)=(((i+1) % s.fr.length:Nat):Int):=by rw[l8,Int.natCast_emod,Int.natCast_add];rfl
    walk_at "wp"
    refine⟨_,oF.of ht2,.int i,HE (j:=0) rfl,(i:Int),rfl,_,dx9,_,h9,T.Ab,T.Af,_,LH,z.fp,rfl,_,dx8,_,e1,T.Ae,T.Ag,_,AH,vs8.length,.inl ⟨_,xE.of e2,rfl⟩,by omega,_,dx9,_,h9,T.Ab,T.A0,by show 7 < 1000;decide,?_⟩
    rw[hmod,sN]
    refine⟨hS2.num h9 rfl rfl (Nat.mod_lt _ (by omega)) rfl rfl,TR (Ks.of (s1.trans s2)),?_,?_⟩
    ·rw[AE (qG ht2 h9 (λz=>nomatch z))];exact ht2
    ·rw[AE (qG he2 h9 (λz=>nomatch z))];exact he2
   rintro⟨rfl,hS3,k3,ht3,he3⟩
   obtain⟨dx9,h9⟩:=hS3.me
   have hh:=hS.hh
   obtain⟨r,hr⟩:=hT.all f5 e9 hil
   obtain⟨j,hsf,hj⟩:=hsl i
   walk_at "wp"
   refine⟨_,oF.of ht3,.int i,HE (j:=0) rfl,_,oF.of ht3,.ref e,HE (j:=1) rfl,dx9,_,h9,UG (by decide+kernel),_,oF.of ht3,.int i,HE (j:=0) rfl,z,_,i,j,c,r,rfl,hS3,hT.hand,hr,hok r (dA hr),hj,hsf,λG4 o l hS4 ho htd hlf k4 t4 ht4=>?_⟩
   have hep:e≠z.p:=λz9=>by rw[z9,s1 _ _ h1] at he0;cases he0
   have hef:=nf (cG s1 he0)
   have he4:=k4 _ _ he3 hep hef
   have s5:vE G4 (upd G4 t4 (.tup [V.int (i:Int),V.ref e,V.ref o])):=WF sF ht4
   exact q _ _ i ps (some (j,r)) t4 e (.ref o) (.inr ⟨e9,r,j,hsw,hr,hsf,hj,rfl,rfl⟩) (hS4.same s5) bF (s5 _ _ he4) ⟨o,l,rfl,s5 _ _ ho,htd.same s5,hlf⟩ hef ((k3.trans k4).trans (Ks.of s5))
noncomputable def GI (s:St):List Addr:=iG (s.fr++s.sr)
theorem yE.hd {C P S:Addr} {H:Hp} {z:Ss} {s:St} (h:yE C P S H z s):∀a∈GI s,∃kvs,H a=some (.dT kvs):=λa ha=>by
 obtain⟨r,hr,rfl⟩:=nJ.mp ha
 obtain⟨_,_,_,_,f3,_⟩:=h.fr
 obtain⟨_,_,_,_,g3,_⟩:=h.sl
 rcases GA.mp hr with hr|hr
 ·obtain⟨i,hi⟩:=dB.mp hr
  obtain⟨_,_,_,_,_,e⟩:=BJ f3 hi
  exact⟨_,e⟩
 ·obtain⟨i,hi⟩:=dB.mp hr
  obtain⟨_,_,_,_,_,e⟩:=BJ g3 hi
  exact⟨_,e⟩
theorem Z0 {s:St} {i j:Nat} {r:Sh}:(XF s i j r).fr.length=s.fr.length/\(XF s i j r).sr.length=s.sr.length:=by
 obtain⟨e1,e2,_⟩:=oK (s:=s) (i:=i) (j:=j) (r:=r)
 rw[e1,e2,BA,BA];exact⟨rfl,rfl⟩
theorem wH.facts {s s1:St} {c:Option Nat} {ms:List Bool} {i:Nat} {ps:List Int} {out:Option (Nat×Sh)} (h:wH s c ms s1 i ps out) (hT:Tw s):s1.fr[i]?=some none/\s1.fr.length=s.fr.length/\s1.sr.length=s.sr.length/\(∀r,some r∈s1.fr\/some r∈s1.sr->some r∈s.fr\/some r∈s.sr)/\Tw s1/\(∀b,s1.tf[i]?≠some (some b))/\((∀j q,out=some (j,q)->s.sr[j]?=some none)->(GI s1).Perm (GI s)):=by
 rcases h with ⟨h1,rfl,_,rfl⟩|⟨h1,q,j,hsw,hq,hsf,hj,rfl,rfl⟩
 ·obtain⟨e1,e2⟩:=CO h1
  exact⟨e1,rfl,rfl,λr h=>h,hT,(λb z=>by rw[e2] at z;cases z),λ_=>rB _⟩
 ·obtain⟨e1,e2,_⟩:=oK (s:={s with h:=(i+1) % s.fr.length}) (i:=i) (j:=j) (r:=q)
  have e1:(XF {s with h:=(i+1) % s.fr.length} i j q).fr=s.fr.set i none:=e1
  have e2:(XF {s with h:=(i+1) % s.fr.length} i j q).sr=s.sr.set j (some q):=e2
  obtain⟨l1,l2⟩:=Z0 (s:={s with h:=(i+1) % s.fr.length}) (i:=i) (j:=j) (r:=q)
  obtain⟨t1,t2⟩:=(hT.hand (h:=(i+1) % s.fr.length)).out (r:=q) (j:=j) λb hb=>YR (s:=s) hsf hb
  refine⟨?_,l1,l2,λr hr=>?_,t1,t2,λhn=>?_⟩
  ·rw[e1];exact EA (aA.mp hq).1
  ·rw[e1,e2] at hr
   rcases hr with hr|hr
   ·rcases sC hr with h|h
    ·exact .inl h
    ·cases h
   ·rcases sC hr with h|h
    ·exact .inr h
    ·cases h;exact .inl (dA hq)
  ·unfold GI
   rw[e1,e2,jH,jH]
   refine ((rB _).append (nK (hn j q rfl))).trans ?_
   exact YA.trans ((WL hq).symm.append_right _)
theorem yE.lens {C P S:Addr} {H:Hp} {z:Ss} {s:St} (h:yE C P S H z s):s.tf.length=s.fr.length/\s.ts.length=s.sr.length:=by
 obtain⟨_,_,_,_,_,_,f5⟩:=h.fr
 obtain⟨_,_,_,_,_,_,g5⟩:=h.sl
 exact⟨f5,g5⟩
theorem Tw.fill {s:St} {i:Nat} {r:Sh} (h:Tw s) (hi:∀b,s.tf[i]?≠some (some b)):Tw {s with fr:=s.fr.set i (some r)}:=⟨h.there,h.back,λa b hab=>by
 show ∃r',(s.fr.set i (some r))[a]?=some (some r')
 rw[qA,fA (λe=>hi b (by rw[e];exact hab))]
 exact h.full a b hab,h.bare⟩
theorem Ks.was {C P S:Addr} {z:Ss} {s s':St} {H G:Hp} (k:Ks z H G) (h:yE C P S H z s) (h':yE C P S G z s') {c:Addr} (hc:G c=none):H c=none:=by
 cases e:H c with
 |none=>rfl
 |some o=>
  by_cases c1:c=z.p
  ·obtain⟨dx,h1⟩:=h'.me
   rw[c1,h1] at hc;cases hc
  ·by_cases c2:c∈z.four
   ·exact absurd c2 (h'.nf hc)
   ·have:=k c o e c1 c2
    rw[hc] at this;cases this
noncomputable def qa (C P S O:Addr):Sp:=λvs H Q E=>∃(z:Ss) (s:St) (l h m:Addr) (bs:List Int) (k:List Key) (ms:List Bool),vs=[.ref z.p,.ref l,.ref h,.ref m]/\yE C P S H z s/\Ap s/\Tw s/\H l=some (.lst (bs.map V.int))/\l∉z.four/\H h=some (.tup (k.map kV))/\H m=some (.lst (ms.map V.bl))/\ms.length=s.fr.length/\(∀r,some r∈s.fr->cJ r)/\
 if FF s < room s then ∀H' s1 i ps out t e v3 r,wH s none ms s1 i ps out->yE C P S H' z {s1 with fr:=s1.fr.set i (some r)}->Ap {s1 with fr:=s1.fr.set i (some r)}->Tw {s1 with fr:=s1.fr.set i (some r)}->r.b=bs->r.ks=[k]->H r.bx=none->H' t=some (.tup [.int (i:Int),.ref e,v3])->H' e=some (.lst (ps.map V.int))->dG z.four H' v3 out->e∉z.four->Ks z H H'->Q (.ref t) H'
 else ∀H',vE H H'->E (.ref O) none H'
theorem va (T:bG K mg A):RE P w K mg base A.Aa "fresh" 5 ["self","sheet","holder","marks"] [] (qa A.Aa A.Ad A.Ac A.A4):=by
 have Do:=xN (P:=P) (w:=w) (base:=base) T
 have Az:=mQ (P:=P) (w:=w) (base:=base) T
 have Es:=cQ (P:=P) (w:=w) (base:=base) T
 refine T.Ds.have RZ (λvs H Q E z=>?_) ?_
 ·obtain⟨z,s,l,h,m,bs,k,ms,rfl,_⟩:=z;rfl
 ·intro f cdv A' outer s H vs Q E hr z
  obtain⟨z,s,l,h,m,bs,k,ms,rfl,hS,hA,hT,hl,hlf,hh,hm,hml,hok,q⟩:=z
  obtain⟨dx,h1⟩:=hS.me
  refine⟨_,(iF (VF (pI (KH (pE 0) T.Ab Do (hr.mono (by decide)) nF)) (ME (o6 GM rfl T.Fa (sE ZH zE))) mG)
   (zF (xF (i:=4) RZ.nd rfl (Or.inl rfl) (iI (pE 0) T.Ab Az (hr.mono (by decide)) nF (sE wF (sE (pE 3) zE))))
   (iF (IH (eR Es (hr.mono (by decide)) nF (sE (pE 1) (sE (pE 2) zE))) (GH (YE (YE (pE 0) rfl) rfl) (IE CG (pE 4) EE (λ_ _=>rfl)) JH))
   (ME (KF (pE 4)))))),?_⟩
  unfold Q0 M0
  walk_at "wp"
  simp only[h1]
  walk_at "wp"
  refine⟨UG (by decide+kernel),z,rfl,s,hS,λH1 s1=>?_⟩
  by_cases c:FF s < room s
  ·rw[iA c] at q
   rw[fA (by unfold room at c;omega)]
   have hS1:=hS.same s1
   refine⟨λσ G=>∃s2 i ps out t e v3,σ=[some (.ref z.p),some (.ref l),some (.ref h),some (.ref m),some (.ref t)]/\wH s none ms s2 i ps out/\yE A.Aa A.Ad A.Ac G z s2/\G t=some (.tup [.int (i:Int),.ref e,v3])/\G e=some (.lst (ps.map V.int))/\dG z.four G v3 out/\e∉z.four/\Ks z H G,?_,λσ2 G2=>?_⟩
   ·walk_at "wp"
    refine⟨dx,_,s1 _ _ h1,UG (by decide+kernel),z,s,none,m,ms,rfl,hS1,hT,s1 _ _ hm,hml,λe9=>⟨λi=>JU hT hS.lens.1 hS.lens.2 c e9,hok⟩,λH' s2 i ps out t e v3 a1 a2 a3 a4 a5 a6 a7=>?_⟩
    exact⟨s2,i,ps,out,t,rfl,a1,a2,e,v3,a3,a4,a5,a6,(Ks.of s1).trans a7⟩
   rintro⟨s2,i,ps,out,t,e,v3,rfl,a1,hS2,a3,a4,a5,a6,k2⟩
   obtain⟨fi,fl1,fl2,fm,ft,fb,fp⟩:=a1.facts hT
   have fp:=fp λj q e=>by
    rcases a1 with ⟨_,_,_,rfl⟩|⟨_,q2,j2,_,_,hsf,_,_,rfl⟩
    ·cases e
    ·cases e
     rcases kQ hT hsf with h|⟨h,_⟩
     ·exact h
     ·cases h
   have hp2:∀{c:Addr} {o:HO},H c=some o->(∀D d fs,o≠.ins D d fs)->c≠z.p:=λhc hn z9=>by rw[z9,h1] at hc;exact hn _ _ _ (cA hc).symm
   have hl2:=k2 _ _ hl (hp2 hl (λ_ _ _ z=>nomatch z)) hlf
   have nlt:∀{c:Addr} {us:List V},H c=some (.tup us)->c∉z.four:=λhc z9=>by obtain⟨ws,h9⟩:=hS.fours _ z9;rw[hc] at h9;cases h9
   have hh2:=k2 _ _ hh (hp2 hh (λ_ _ _ z=>nomatch z)) (nlt hh)
   walk_at "wp"
   intro sh sdx hsh hsdx hne
   have sm:=fR (o:=.ins A.Ac sdx []) hsh hsdx hne
   refine⟨bs,sm _ _ hl2,k,sm _ _ hh2,λbx hd G3 hbx hhd kp3 b1 b2 b3=>?_⟩
   have s23:vE G2 G3:=λc o hc=>kp3 c o (sm c o hc) (λz=>NF hc hsh (kA.mp z))
   have hS3:=hS2.same s23
   obtain⟨dx9,h9⟩:=hS3.me
   obtain⟨dx1,vs1,f1,f2,f3,f4,_⟩:=id hS3.fr
   have hvl:=Paired.length f3
   have hil:=(aA.mp fi).1
   have hbx2:=cG sm hbx
   have hhd2:=cG sm hhd
   have hbf:=hS2.nf hbx2
   refine⟨_,dx9,_,h9,T.Ab,T.Af,_,LH,z.fp,rfl,_,dx1,_,f1,T.Ae,T.Ag,_,AH,_,oF.of (s23 _ _ a3),.int i,HE (j:=0) rfl,z.ly,rfl,vs1,i,rfl,f2,i,DH (by rw[hvl];exact hil),?_⟩
   have keep:∀{c:Addr} {o:HO},G3 c=some o->c∉z.four->upd G3 z.ly (.lst (vs1.set i (.ref sh))) c=some o:=λhc hn=>by rw[AE (λz9=>hn (by rw[z9];exact IJ (f:=true)))];exact hc
   have nlt3:∀{c:Addr} {us:List V},G3 c=some (.tup us)->c∉z.four:=λhc z9=>by obtain⟨ws,h9⟩:=hS3.fours _ z9;rw[hc] at h9;cases h9
   refine q _ s2 i ps out t e v3 ⟨bs,[k],sh,bx,hd⟩ a1 (hS3.set (f:=true) (j:=i) (r:=some ⟨bs,[k],sh,bx,hd⟩) f2 ⟨rfl,⟨sdx,b1⟩,b2,b3⟩ (λq e=>by cases e;exact hbf)) ?_ (ft.fill fb) rfl rfl (k2.was hS hS2 hbx2) (keep (s23 _ _ a3) (nlt3 (s23 _ _ a3))) (keep (s23 _ _ a4) a6) ((a5.same s23).keep λc us hc=>?_) a6 (YL (f:=true) (k2.trans (Ks.of s23)))
   ·have nin:hd∉GI s2:=λz9=>by obtain⟨kvs,h8⟩:=hS2.hd _ z9;rw[hhd2] at h8;cases h8
    have:(GI s2).Nodup:=fp.nodup_iff.mpr hA
    unfold Ap
    show (iG (s2.fr.set i (some ⟨bs,[k],sh,bx,hd⟩)++s2.sr)).Nodup
    rw[jH]
    refine ((nK (r:=⟨bs,[k],sh,bx,hd⟩) fi).append_right _).nodup_iff.mpr ?_
    have e8:GI s2=iG s2.fr++iG s2.sr:=jH
    rw[e8] at nin this
    exact gB.mpr ⟨nin,this⟩
   ·rcases hc with hc|hc
    ·rw[hc];exact keep hc (nlt3 hc)
    ·rw[hc.1];exact keep hc.1 hc.2
  ·rw[fA c] at q
   rw[iA (by unfold room at c;omega)]
   exact q H1 s1
theorem nQ {S:Addr} {H H':Hp} {z:Ss} {s:St} {C dx:Addr} (e:H z.p=some (.ins C dx (gH z.n z.fp z.sq s))) (k:Ks z H H') {v:V} {r:Sh} (hb:r.bx∉z.four) (n2:∀c∈z.four,∃us,H c=some (.lst us)) (h:lF S H v (some r)):lF S H' v (some r):=by
 obtain⟨a,⟨d,h1⟩,h2,h3⟩:=h
 have np:∀{c:Addr} {o:HO},H c=some o->(∀D d fs,o=.ins D d fs->fs.lookup ("hand":Str)=none)->c≠z.p:=λ{c o} hc hn e9=>by
  rw[e9,e] at hc
  have:=hn _ _ _ (cA hc).symm
  rw[bQ] at this
  cases this
 have nl:∀{c:Addr} {o:HO},H c=some o->(∀us,o≠.lst us)->c∉z.four:=λhc hn z9=>by obtain⟨us,h9⟩:=n2 _ z9;rw[h9] at hc;exact hn _ (cA hc).symm
 exact⟨a,⟨d,k _ _ h1 (np h1 λ_ _ _ z=>by cases z;exact RL (by decide+kernel)) (nl h1 λ_ z=>nomatch z)⟩,k _ _ h2 (np h2 λ_ _ _ z=>nomatch z) hb,k _ _ h3 (np h3 λ_ _ _ z=>nomatch z) (nl h3 λ_ z=>nomatch z)⟩
theorem wa {fr sr:List (Option Sh)} {i j:Nat} {q c:Sh} (hq:fr[i]?=some (some q)) (hc:sr[j]?=some (some c)):(iG (fr.set i (some c)++sr.set j (some q))).Perm (iG (fr++sr)):=by
 rw[jH,jH]
 have a1:=nK (rows:=fr.set i none) (j:=i) (r:=c) (EA (aA.mp hq).1)
 have a2:=nK (rows:=sr.set j none) (j:=j) (r:=q) (EA (aA.mp hc).1)
 rw[RB] at a1 a2
 refine (a1.append a2).trans (List.Perm.trans ?_ ((WL hq).append (WL hc)).symm)
 exact (List.Perm.cons _ YA).trans ((List.Perm.swap ..).trans (List.Perm.cons _ YA.symm))
theorem xa {fr sr:List (Option Sh)} {i j:Nat} {c:Sh} (hi:fr[i]?=some none) (hc:sr[j]?=some (some c)):(iG (fr.set i (some c)++sr.set j none)).Perm (iG (fr++sr)):=by
 rw[jH,jH]
 refine ((nK hi).append_right _).trans (List.Perm.trans ?_ ((WL hc).append_left _).symm)
 exact YA.symm
noncomputable def xH (s1:St) (i j:Nat) (c:Sh) (out:Option (Nat×Sh)):St:=if out.map (·.1)=some j then s1.put true i (some c) else (((s1.put true i (some c)).put false j none).tie false j (some i)).tie true i (some j)
noncomputable def rF (s1:St) (i j:Nat) (c:Sh) (out:Option (Nat×Sh)):St:={xH s1 i j c out with cb:=s1.cb+1}
theorem AN {s1:St} {i j:Nat} {c:Sh} {out:Option (Nat×Sh)}:(rF s1 i j c out).fr=s1.fr.set i (some c)/\(rF s1 i j c out).sr=(if out.map (·.1)=some j then s1.sr else s1.sr.set j none)/\(rF s1 i j c out).tf=(if out.map (·.1)=some j then s1.tf else s1.tf.set i (some j))/\(rF s1 i j c out).ts=(if out.map (·.1)=some j then s1.ts else s1.ts.set j (some i))/\(rF s1 i j c out).h=s1.h/\(rF s1 i j c out).go=s1.go/\(rF s1 i j c out).ga=s1.ga/\(rF s1 i j c out).cb=s1.cb+1:=by
 unfold rF xH
 split<;>exact⟨rfl,rfl,rfl,rfl,rfl,rfl,rfl,rfl⟩
theorem wH.slot {s s1:St} {ms:List Bool} {i j:Nat} {ps:List Int} {out:Option (Nat×Sh)} {c:Sh} (h:wH s (some j) ms s1 i ps out) (hT:Tw s) (hc:s.sr[j]?=some (some c)):(out.map (·.1)=some j/\∃q,s.fr[i]?=some (some q)/\s1.fr=s.fr.set i none/\s1.sr=s.sr.set j (some q))\/(out.map (·.1)≠some j/\s1.sr[j]?=some (some c)/\(∀j q,out=some (j,q)->s.sr[j]?=some none)):=by
 rcases h with ⟨h1,rfl,_,rfl⟩|⟨h1,q,j2,hsw,hq,hsf,hj,rfl,rfl⟩
 ·exact .inr ⟨(λz=>by cases z),hc,λj q z=>by cases z⟩
 ·obtain⟨e1,e2,_⟩:=oK (s:={s with h:=(i+1) % s.fr.length}) (i:=i) (j:=j2) (r:=q)
  by_cases e:j2=j
  ·subst e
   exact .inl ⟨rfl,q,hq,e1,e2⟩
  ·refine .inr ⟨λz=>e (cA z),?_,λj3 q3 z=>?_⟩
   ·rw[e2,qA,fA e];exact hc
   ·cases z
    rcases kQ hT hsf with h|⟨h,_⟩
    ·exact h
    ·exact absurd (cA h).symm e
theorem wH.back {s s1:St} {ms:List Bool} {i j:Nat} {ps:List Int} {out:Option (Nat×Sh)} {c:Sh} (h:wH s (some j) ms s1 i ps out) (hT:Tw s) (hA:Ap s) (hl:s1.tf.length=s1.fr.length) (hl2:s1.ts.length=s1.sr.length) (hc:s.sr[j]?=some (some c)):Ap (rF s1 i j c out)/\Tw (rF s1 i j c out):=by
 obtain⟨b1,b2,b3,b4,_⟩:=AN (s1:=s1) (i:=i) (j:=j) (c:=c) (out:=out)
 obtain⟨f1,f2,f3,f4,f5,f6,f7⟩:=h.facts hT
 rcases h.slot hT hc with ⟨h1,q,h2,h3,h4⟩|⟨h1,h2,h3⟩
 ·rw[iA h1] at b2 b3 b4
  constructor
  ·unfold Ap
   rw[b1,b2,h3,h4,RB]
   exact (wa h2 hc).nodup_iff.mpr hA
  ·have:=f5.fill (r:=c) f6
   exact⟨by rw[b3,b4];exact this.there,by rw[b3,b4];exact this.back,by rw[b1,b3];exact this.full,by rw[b2,b4];exact this.bare⟩
 ·rw[fA h1] at b2 b3 b4
  have hil:=(aA.mp f1).1
  have hjl:=(aA.mp h2).1
  have tn:∀a,s1.ts[j]?≠some (some a):=λa z=>by have:=f5.bare a j z;rw[h2] at this;cases this
  constructor
  ·unfold Ap
   rw[b1,b2]
   exact (xa f1 h2).nodup_iff.mpr ((f7 h3).nodup_iff.mpr hA)
  ·refine⟨λa b hab=>?_,λa b hab=>?_,λa b hab=>?_,λa b hab=>?_⟩
   ·rw[b3,qA] at hab
    rw[b4,qA]
    by_cases e:i=a
    ·subst e
     rw[iA rfl,iA (by omega)] at hab
     obtain rfl:j=b:=cA (cA hab)
     rw[iA rfl,iA (by omega)]
    ·rw[fA e] at hab
     have:=f5.there a b hab
     rw[fA (λz=>tn a (by rw[z];exact this))]
     exact this
   ·rw[b4,qA] at hab
    rw[b3,qA]
    by_cases e:j=b
    ·subst e
     rw[iA rfl,iA (by omega)] at hab
     obtain rfl:i=a:=cA (cA hab)
     rw[iA rfl,iA (by omega)]
    ·rw[fA e] at hab
     have:=f5.back a b hab
     rw[fA (λz=>f6 b (by rw[z];exact this))]
     exact this
   ·rw[b1,qA]
    by_cases e:i=a
    ·subst e
     rw[iA rfl,iA (by omega)]
     exact⟨c,rfl⟩
    ·rw[b3,qA,fA e] at hab
     rw[fA e]
     exact f5.full a b hab
   ·rw[b2,qA]
    by_cases e:j=b
    ·subst e
     rw[iA rfl,iA (by omega)]
    ·rw[b4,qA,fA e] at hab
     rw[fA e]
     exact f5.bare a b hab
noncomputable def ya (C P S:Addr):Sp:=λvs H Q _=>∃(z:Ss) (s:St) (j:Nat) (m:Addr) (ms:List Bool) (c:Sh),vs=[.ref z.p,.int j,.ref m]/\yE C P S H z s/\Ap s/\Tw s/\H m=some (.lst (ms.map V.bl))/\ms.length=s.fr.length/\(∀r,some r∈s.fr->cJ r)/\s.sr[j]?=some (some c)/\
 ∀H' s1 i ps out t e v3,wH s (some j) ms s1 i ps out->yE C P S H' z (rF s1 i j c out)->Ap (rF s1 i j c out)->Tw (rF s1 i j c out)->H' t=some (.tup [.int (i:Int),.ref e,v3])->H' e=some (.lst (ps.map V.int))->dG z.four H' v3 out->e∉z.four->Ks z H H'->Q (.ref t) H'
theorem BN (T:bG K mg A):RE P w K mg base A.Aa "back" 5 ["self","slot","marks"] [] (ya A.Aa A.Ad A.Ac):=by
 have Az:=mQ (P:=P) (w:=w) (base:=base) T
 refine T.D6.have IT (λvs H Q E z=>?_) ?_
 ·obtain⟨z,s,j,m,ms,c,rfl,_⟩:=z;rfl
 ·intro f cdv A' outer s H vs Q E hr z
  obtain⟨z,s,j,m,ms,c,rfl,hS,hA,hT,hm,hml,hok,hc,q⟩:=z
  obtain⟨dx,h1⟩:=hS.me
  obtain⟨dx2,vs2,g1,g2,g3,g4,g5⟩:=id hS.sl
  obtain⟨v,hv1,hv2⟩:=BJ g3 hc
  obtain⟨rfl,_⟩:=id hv2
  have hjl:=(aA.mp hc).1
  have hbc:=hS.bx c (.inr (dA hc))
  refine⟨_,(iF (xF (i:=3) IT.nd rfl (Or.inl rfl) (IE eF (YE (YE (pE 0) rfl) rfl) (pE 1) (λ_ _=>rfl)))
   (zF (xF (i:=4) IT.nd rfl (Or.inl rfl) (iI (pE 0) T.Ab Az (hr.mono (by decide)) nF (sE (pE 1) (sE (pE 2) zE))))
   (zF (IH (pE 3) (GH (YE (YE (pE 0) rfl) rfl) (IE CG (pE 4) EE (λ_ _=>rfl)) JH))
   (zF (VF (PW.pt (UO (BF bI (IE CG (pE 4) EE (λ_ _=>rfl)) wF (uE _)) (SO (BF vS (IE CG (IE CG (pE 4) EE (λ_ _=>rfl)) EE (λ_ _=>rfl)) (pE 1) (uE _))))) (iF (IH wF (GH (YE (YE (pE 0) rfl) rfl) (pE 1) JH))
   (iF (IH (IE CG (pE 4) EE (λ_ _=>rfl)) (GH (YE (YE (pE 0) rfl) rfl) (pE 1) JH))
   (ME (IH (pE 1) (GH (YE (YE (pE 0) rfl) rfl) (IE CG (pE 4) EE (λ_ _=>rfl)) JH))))) mG)
   (iF (SI (pE 0) (jF PH (YE (pE 0) rfl) EE) rfl)
   (ME (KF (pE 4)))))))),?_⟩
  walk_at "wp"
  simp only[h1]
  walk_at "wp"
  refine⟨T.Ab,T.Ah,_,qI,z.sq,rfl,_,dx2,_,g1,T.Ae,T.Ag,_,AH,z.ls,rfl,_,xE.of g2,_,HE hv1,?_⟩
  refine⟨λσ G=>∃s1 i ps out t e v3,σ=[some (.ref z.p),some (.int j),some (.ref m),some (.ref c.sh),some (.ref t)]/\wH s (some j) ms s1 i ps out/\yE A.Aa A.Ad A.Ac G z s1/\G t=some (.tup [.int (i:Int),.ref e,v3])/\G e=some (.lst (ps.map V.int))/\dG z.four G v3 out/\e∉z.four/\Ks z H G,?_,λσ2 G2=>?_⟩
  ·walk_at "wp"
   refine⟨dx,_,h1,UG (by decide+kernel),z,s,some j,m,ms,rfl,hS,hT,hm,hml,λ_=>⟨λi=>IU hT g5 λ_ _=>⟨j,rfl,hjl⟩,hok⟩,λH' s1 i ps out t e v3 a1 a2 a3 a4 a5 a6 a7=>?_⟩
   exact⟨s1,i,ps,out,t,rfl,a1,a2,e,v3,a3,a4,a5,a6,a7⟩
  rintro⟨s1,i,ps,out,t,e,v3,rfl,a1,hS2,ht2,he2,ho2,hef,k2⟩
  obtain⟨f1,_⟩:=a1.facts hT
  have hil:=(aA.mp f1).1
  have sh2:=nQ h1 k2 hbc hS.fours hv2
  have hsl:=a1.slot hT hc
  obtain⟨b1,b2⟩:=a1.back hT hA hS2.lens.1 hS2.lens.2 hc
  refine⟨λσ G=>σ=[some (.ref z.p),some (.int j),some (.ref m),some (.ref c.sh),some (.ref t)]/\yE A.Aa A.Ad A.Ac G z (s1.put true i (some c))/\G t=some (.tup [.int (i:Int),.ref e,v3])/\G e=some (.lst (ps.map V.int))/\dG z.four G v3 out/\Ks z H G,?_,λσ3 G3=>?_⟩
  ·obtain⟨dx9,h9⟩:=hS2.me
   obtain⟨dx8,vs8,e1,e2,e3,e4,e5⟩:=id hS2.fr
   have l8:=Paired.length e3
   walk_at "wp"
   refine⟨_,dx9,_,h9,T.Ab,T.Af,_,LH,z.fp,rfl,_,dx8,_,e1,T.Ae,T.Ag,_,AH,_,oF.of ht2,.int i,HE (j:=0) rfl,z.ly,rfl,vs8,i,rfl,e2,i,DH (by rw[l8];exact hil),?_⟩
   refine⟨hS2.set (f:=true) (j:=i) (r:=some c) e2 sh2 (λq e=>by cases e;exact hbc),by rw[AE (qG ht2 e2 (λz=>nomatch z))];exact ht2,by rw[AE (λz9=>hef (by rw[z9];exact IJ (f:=true)))];exact he2,ho2.keep λa us ha=>?_,YL (f:=true) k2⟩
   rcases ha with ha|ha
   ·rw[AE (qG ha e2 (λz=>nomatch z))]
   ·rw[AE (λz9=>ha.2 (by rw[z9];exact IJ (f:=true)))]
  rintro⟨rfl,hS3,ht3,he3,ho3,k3⟩
  refine⟨λσ G=>σ=[some (.ref z.p),some (.int j),some (.ref m),some (.ref c.sh),some (.ref t)]/\yE A.Aa A.Ad A.Ac G z (xH s1 i j c out)/\G t=some (.tup [.int (i:Int),.ref e,v3])/\G e=some (.lst (ps.map V.int))/\dG z.four G v3 out/\Ks z H G,?_,λσ4 G4=>?_⟩
  ·walk_at "wp"
   have ntf:∀{c:Addr} {us:List V},G3 c=some (.tup us)->c∉z.four:=λhc z9=>by obtain⟨ws,h9⟩:=hS3.fours _ z9;rw[hc] at h9;cases h9
   have nti:∀{c:Addr} {o:HO},G3 c=some o->(hn:∀D d fs,o≠.ins D d fs:=by intro _ _ _ z;cases z)->c≠z.p:=λhc hn z9=>by obtain⟨dx,h1⟩:=hS3.me;rw[z9,h1] at hc;exact hn _ _ _ (cA hc).symm
   obtain⟨dx9,h9⟩:=hS3.me
   obtain⟨dx8,vs8,e1,e2,e3,e4,e5⟩:=id hS3.sl
   have l8:vs8.length=s1.sr.length:=Paired.length e3
   have hln:=hS2.lens
   have hjl1:j < s1.sr.length:=by have:=(a1.facts hT).2.2.1;omega
   refine⟨_,oF.of ht3,v3,HE (j:=2) rfl,?_⟩
   cases out with
   |none=>
    obtain rfl:v3=.non:=id ho3
    rw[iA rfl]
    have nout:(none:Option (Nat×Sh)).map (·.1)≠some j:=λz=>by cases z
    have eb:xH s1 i j c none=(((s1.put true i (some c)).put false j none).tie false j (some i)).tie true i (some j):=by unfold xH;rw[fA nout]
    rw[eb]
    have S5:=hS3.set (f:=false) (j:=j) (r:=none) e2 rfl (λq e=>nomatch e)
    have k5:Ks z G3 (upd G3 z.ls (.lst (vs8.set j .non))):=YL (f:=false) (Ks.of sF)
    refine⟨_,dx9,_,h9,T.Ab,T.Ah,_,qI,z.sq,rfl,_,dx8,_,e1,T.Ae,T.Ag,_,AH,z.ls,rfl,vs8,e2,j,DH (by rw[l8];exact hjl1),?_⟩
    have S5:yE A.Aa A.Ad A.Ac (upd G3 z.ls (.lst (vs8.set j .non))) z ((s1.put true i (some c)).put false j none):=S5
    generalize upd G3 z.ls _=G5 at *
    obtain⟨dy,y1⟩:=S5.me
    obtain⟨dz,ws,y2,y3,y4,y5,y6⟩:=id S5.sl
    have y5:G5 z.ts=some (.lst (s1.ts.map oV)):=y5
    have ht5:=k5 _ _ ht3 (nti ht3) (ntf ht3)
    refine⟨_,oF.of ht5,.int i,HE (j:=0) rfl,_,dy,_,y1,T.Ab,T.Ah,_,qI,z.sq,rfl,_,dz,_,y2,T.Ae,T.Ai,_,KI,z.ts,rfl,_,y5,j,DH (by rw[lA];omega),?_⟩
    have S6:yE A.Aa A.Ad A.Ac (upd G5 z.ts (.lst ((s1.ts.map oV).set j (V.int (i:Int))))) z _:=S5.tie (f:=false) (j:=j) (o:=some i)
    have k6:Ks z G3 (upd G5 z.ts (.lst ((s1.ts.map oV).set j (V.int (i:Int))))):=AO (f:=false) k5
    generalize upd G5 z.ts _=G6 at *
    obtain⟨dw,x1⟩:=S6.me
    obtain⟨dv,us,x2,x3,x4,x5,x6⟩:=id S6.fr
    have x5:G6 z.tw=some (.lst (s1.tf.map oV)):=x5
    have ht6:=k6 _ _ ht3 (nti ht3) (ntf ht3)
    refine⟨_,dw,_,x1,T.Ab,T.Af,_,LH,z.fp,rfl,_,dv,_,x2,T.Ae,T.Ai,_,KI,_,oF.of ht6,.int i,HE (j:=0) rfl,z.tw,rfl,_,i,rfl,x5,i,DH (by rw[lA];omega),?_⟩
    have S7:yE A.Aa A.Ad A.Ac (upd G6 z.tw (.lst ((s1.tf.map oV).set i (V.int (j:Int))))) z _:=S6.tie (f:=true) (j:=i) (o:=some j)
    have k7:Ks z G3 (upd G6 z.tw (.lst ((s1.tf.map oV).set i (V.int (j:Int))))):=AO (f:=true) k6
    exact⟨S7,k7 _ _ ht3 (nti ht3) (ntf ht3),k7 _ _ he3 (nti he3) hef,ho3.keep (λa us ha=>by
     rcases ha with ha|ha
     ·rw[ha];exact k7 _ _ ha (nti ha) (ntf ha)
     ·rw[ha.1];exact k7 _ _ ha.1 (nti ha.1) ha.2),k3.trans k7⟩
   |some jq=>
    obtain⟨j2,q2⟩:=jq
    obtain⟨o,l,rfl,d1,d2⟩:=id ho3
    rw[fA (λz=>nomatch z)]
    refine⟨_,oF.of ht3,.ref o,HE (j:=2) rfl,o,rfl,_,oF.of d1,.int j2,HE (j:=0) rfl,rfl,?_⟩
    by_cases c9:j2=j
    ·subst c9
     have eb:xH s1 i j2 c (some (j2,q2))=s1.put true i (some c):=by unfold xH;exact iA rfl
     rw[eb]
     exact KJ (by simp) ⟨hS3,ht3,he3,ho3,k3⟩
    refine EI (by simp;omega) ?_
    have nout:(some (j2,q2)).map (·.1)≠some j:=λz=>c9 (cA z)
    have eb:xH s1 i j c (some (j2,q2))=(((s1.put true i (some c)).put false j none).tie false j (some i)).tie true i (some j):=by unfold xH;rw[fA nout]
    rw[eb]
    have S5:=hS3.set (f:=false) (j:=j) (r:=none) e2 rfl (λq e=>nomatch e)
    have k5:Ks z G3 (upd G3 z.ls (.lst (vs8.set j .non))):=YL (f:=false) (Ks.of sF)
    refine⟨_,dx9,_,h9,T.Ab,T.Ah,_,qI,z.sq,rfl,_,dx8,_,e1,T.Ae,T.Ag,_,AH,z.ls,rfl,vs8,e2,j,DH (by rw[l8];exact hjl1),?_⟩
    have S5:yE A.Aa A.Ad A.Ac (upd G3 z.ls (.lst (vs8.set j .non))) z ((s1.put true i (some c)).put false j none):=S5
    generalize upd G3 z.ls _=G5 at *
    obtain⟨dy,y1⟩:=S5.me
    obtain⟨dz,ws,y2,y3,y4,y5,y6⟩:=id S5.sl
    have y5:G5 z.ts=some (.lst (s1.ts.map oV)):=y5
    have ht5:=k5 _ _ ht3 (nti ht3) (ntf ht3)
    refine⟨_,oF.of ht5,.int i,HE (j:=0) rfl,_,dy,_,y1,T.Ab,T.Ah,_,qI,z.sq,rfl,_,dz,_,y2,T.Ae,T.Ai,_,KI,z.ts,rfl,_,y5,j,DH (by rw[lA];omega),?_⟩
    have S6:yE A.Aa A.Ad A.Ac (upd G5 z.ts (.lst ((s1.ts.map oV).set j (V.int (i:Int))))) z _:=S5.tie (f:=false) (j:=j) (o:=some i)
    have k6:Ks z G3 (upd G5 z.ts (.lst ((s1.ts.map oV).set j (V.int (i:Int))))):=AO (f:=false) k5
    generalize upd G5 z.ts _=G6 at *
    obtain⟨dw,x1⟩:=S6.me
    obtain⟨dv,us,x2,x3,x4,x5,x6⟩:=id S6.fr
    have x5:G6 z.tw=some (.lst (s1.tf.map oV)):=x5
    have ht6:=k6 _ _ ht3 (nti ht3) (ntf ht3)
    refine⟨_,dw,_,x1,T.Ab,T.Af,_,LH,z.fp,rfl,_,dv,_,x2,T.Ae,T.Ai,_,KI,_,oF.of ht6,.int i,HE (j:=0) rfl,z.tw,rfl,_,i,rfl,x5,i,DH (by rw[lA];omega),?_⟩
    have S7:yE A.Aa A.Ad A.Ac (upd G6 z.tw (.lst ((s1.tf.map oV).set i (V.int (j:Int))))) z _:=S6.tie (f:=true) (j:=i) (o:=some j)
    have k7:Ks z G3 (upd G6 z.tw (.lst ((s1.tf.map oV).set i (V.int (j:Int))))):=AO (f:=true) k6
    exact⟨S7,k7 _ _ ht3 (nti ht3) (ntf ht3),k7 _ _ he3 (nti he3) hef,ho3.keep (λa us ha=>by
     rcases ha with ha|ha
     ·rw[ha];exact k7 _ _ ha (nti ha) (ntf ha)
     ·rw[ha.1];exact k7 _ _ ha.1 (nti ha.1) ha.2),k3.trans k7⟩
  rintro⟨rfl,hS4,ht4,he4,ho4,k4⟩
  obtain⟨dx9,h9⟩:=hS4.me
  have ecb:(xH s1 i j c out).cb=s1.cb:=by unfold xH;split<;>rfl
  walk_at "wp"
  refine⟨_,dx9,_,h9,T.Ab,T.Ar,_,K0,_,rfl,_,dx9,_,h9,T.Ab,T.Ar,by show 7 < 1000;decide,?_⟩
  rw[vN,ecb]
  refine q _ s1 i ps out t e v3 a1 ?_ b1 b2 ?_ ?_ ?_ hef (TR k4)
  ·exact hS4.num h9 rfl rfl hS4.hh rfl rfl
  ·rw[AE (qG ht4 h9 (λz=>nomatch z))];exact ht4
  ·rw[AE (qG he4 h9 (λz=>nomatch z))];exact he4
  ·refine ho4.keep λa us ha=>?_
   rcases ha with ha|ha
   ·rw[AE (qG ha h9 (λz=>nomatch z))]
   ·rw[AE (qG ha.1 h9 (λz=>nomatch z))]
theorem ZR:∀{rows:List (Option Sh)} {j:Nat},(iG (rows.set j none)).Sublist (iG rows)
 |[],_=>UD _
 |x::l,0=>by
  cases x with
  |none=>exact UD _
  |some y=>exact List.Sublist.cons _ (UD _)
 |x::l,j+1=>by
  cases x with
  |none=>exact ZR (rows:=l) (j:=j)
  |some y=>exact List.Sublist.cons₂ _ (ZR (rows:=l) (j:=j))
theorem oQ:∀{rows:List (Option Sh)} {i j:Nat} {r r':Sh},(iG rows).Nodup->rows[j]?=some (some r)->rows[i]?=some (some r')->i≠j->r'.hd≠r.hd
 |[],_,_,_,_,_,h,_,_=>by simp at h
 |x::l,0,0,_,_,_,_,_,h=>absurd rfl h
 |x::l,0,j+1,r,r',nd,h1,h2,_=>by
  simp at h1 h2
  subst h2
  have nd:(r'.hd::iG l).Nodup:=nd
  exact λe=>(gB.mp nd).1 (nJ.mpr ⟨r,dA h1,e.symm⟩)
 |x::l,i+1,0,r,r',nd,h1,h2,_=>by
  simp at h1 h2
  subst h1
  have nd:(r.hd::iG l).Nodup:=nd
  exact λe=>(gB.mp nd).1 (nJ.mpr ⟨r',dA h2,e⟩)
 |x::l,i+1,j+1,r,r',nd,h1,h2,hn=>by
  have nd:(iG l).Nodup:=by
   cases x with
   |none=>exact nd
   |some y=>exact (gB.mp (show (y.hd::iG l).Nodup from nd)).2
  exact oQ nd (by simpa using h1) (by simpa using h2) (by omega)
noncomputable def aS (C P S:Addr):Sp:=λvs H Q _=>∃(z:Ss) (s:St) (t:Addr) (f:Bool) (j:Nat) (r:Option Sh),vs=[.ref z.p,.ref t]/\yE C P S H z s/\H t=some (.tup [.str (BH f),.int j])/\(s.rw f)[j]?=some r/\∀v,lF S H v r->Q v H
theorem RK (T:bG K mg A):RE P w K mg base A.Aa "lying_at" 1 ["self","spot"] [] (aS A.Aa A.Ad A.Ac):=by
 refine T.Cq.have VZ (λvs H Q E z=>?_) ?_
 ·obtain⟨z,s,t,f,j,r,rfl,_⟩:=z;rfl
 ·intro f cdv A' outer s H vs Q E hr z
  obtain⟨z,s,t,f,j,r,rfl,hS,ht,hrj,q⟩:=z
  obtain⟨dx,h1⟩:=hS.me
  refine⟨_,(iF (xF (i:=2) VZ.nd rfl (Or.inl rfl) (UQ (BF OI (IE CG (pE 1) EE (λ_ _=>rfl)) ZH (uE _)) (YE (pE 0) rfl) (YE (pE 0) rfl)))
   (ME (KF (IE eF (YE (pE 2) rfl) (IE CG (pE 1) EE (λ_ _=>rfl)) (λ_ _=>rfl))))),?_⟩
  walk_at "wp"
  simp only[h1]
  walk_at "wp"
  obtain⟨dx1,vs1,f1,f2,f3,f4⟩:=id hS.fr
  obtain⟨dx2,vs2,g1,g2,g3,g4⟩:=id hS.sl
  refine⟨_,oF.of ht,_,rfl,rfl,?_⟩
  cases f with
  |true=>
   rw[iA (show V.str (BH true)=V.str (Str.ofString "frame") from rfl)]
   obtain⟨v,hv1,hv2⟩:=BJ f3 hrj
   exact⟨T.Ab,T.Af,_,LH,z.fp,rfl,_,dx1,_,f1,T.Ae,T.Ag,_,AH,_,oF.of ht,_,rfl,z.ly,rfl,_,j,rfl,xE.of f2,v,HE hv1,q v hv2⟩
  |false=>
   rw[fA (by decide+kernel)]
   obtain⟨v,hv1,hv2⟩:=BJ g3 hrj
   exact⟨T.Ab,T.Ah,_,qI,z.sq,rfl,_,dx2,_,g1,T.Ae,T.Ag,_,AH,_,oF.of ht,_,rfl,z.ls,rfl,_,j,rfl,xE.of g2,v,HE hv1,q v hv2⟩
theorem bS {S hd:Addr} {H:Hp} {kvs:List (List Key×V)} {o:HO} (hl:H hd=some (.dT kvs)) {vs:List V} {rows:List (Option Sh)} (h:lG S H vs rows) (hb:∀r,some r∈rows->r.hd≠hd):lG S (upd H hd o) vs rows:=by
 induction h with
 |nil=>exact .nil
 |@cons x y _ _ h t ih=>
  refine .cons ?_ (ih λr hr=>hb r (jA _ hr))
  cases y with
  |none=>exact h
  |some r=>
   obtain⟨e,⟨dx,h1⟩,h2,h3⟩:=h
   exact⟨e,⟨dx,by rw[AE (qG h1 hl (λz=>nomatch z))];exact h1⟩,by rw[AE (qG h2 hl (λz=>nomatch z))];exact h2,by rw[AE (hb r (wA ..))];exact h3⟩
theorem ZL {S:Addr} {H:Hp} {r:Sh} {kvs:List (List Key×V)} {ks:List (List Key)} (hl:H r.hd=some (.dT kvs)) {vs:List V} {rows:List (Option Sh)} (h:lG S H vs rows):∀{j:Nat},rows[j]?=some (some r)->(∀(i:Nat) q,i≠j->rows[i]?=some (some q)->q.hd≠r.hd)->lG S (upd H r.hd (.dT (iH ks))) vs (rows.set j (some {r with ks:=ks})):=by
 induction h with
 |nil=>intro j h _;simp at h
 |@cons x y xs ys h t ih=>
  intro j hj hb
  cases j with
  |zero=>
   simp at hj
   subst hj
   obtain⟨e,⟨dx,h1⟩,h2,h3⟩:=h
   refine .cons ⟨e,⟨dx,by rw[AE (qG h1 hl (λz=>nomatch z))];exact h1⟩,by rw[AE (qG h2 hl (λz=>nomatch z))];exact h2,bF⟩ (bS hl t λq hq=>?_)
   obtain⟨i,hi⟩:=dB.mp hq
   exact hb (i+1) q (by omega) (by simpa using hi)
  |succ j=>
   refine .cons ?_ (ih (by simpa using hj) λi q hi hq=>hb (i+1) q (by omega) (by simpa using hq))
   cases y with
   |none=>exact h
   |some r9=>
    obtain⟨e,⟨dx,h1⟩,h2,h3⟩:=h
    exact⟨e,⟨dx,by rw[AE (qG h1 hl (λz=>nomatch z))];exact h1⟩,by rw[AE (qG h2 hl (λz=>nomatch z))];exact h2,by rw[AE (hb 0 r9 (by omega) rfl)];exact h3⟩
theorem KU:∀{rows:List (Option Sh)} {j:Nat} {r r':Sh},rows[j]?=some (some r)->r'.hd=r.hd->iG (rows.set j (some r'))=iG rows
 |[],_,_,_,h,_=>by simp at h
 |x::l,0,r,r',h,e=>by
  simp at h
  subst h
  show r'.hd::iG l=r.hd::iG l
  rw[e]
 |x::l,j+1,r,r',h,e=>by
  have:=KU (rows:=l) (j:=j) (by simpa using h) e
  cases x with
  |none=>exact this
  |some y=>exact congrArg (y.hd::·) this
theorem LU {s:St} {f:Bool} {j:Nat} {r r':Sh} (h:Ap s) (hr:(s.rw f)[j]?=some (some r)) (e:r'.hd=r.hd):Ap (s.put f j (some r')):=by
 unfold Ap at *
 cases f with
 |true=>show (iG (s.fr.set j (some r')++s.sr)).Nodup;rw[jH,KU (rows:=s.fr) hr e,<-jH];exact h
 |false=>show (iG (s.fr++s.sr.set j (some r'))).Nodup;rw[jH,KU (rows:=s.sr) hr e,<-jH];exact h
theorem j1 {s:St} {f:Bool} {j:Nat} (h:Ap s):Ap (s.put f j none):=by
 unfold Ap at *
 rw[jH] at h
 cases f with
 |true=>show (iG (s.fr.set j none++s.sr)).Nodup;rw[jH];exact h.sublist (List.Sublist.append_right ZR _)
 |false=>show (iG (s.fr++s.sr.set j none)).Nodup;rw[jH];exact h.sublist (List.Sublist.append_left ZR _)
theorem yE.ks {C P S:Addr} {H:Hp} {z:Ss} {s:St} {f:Bool} {j:Nat} {r:Sh} {ks:List (List Key)} (h:yE C P S H z s) (hA:Ap s) (hr:(s.rw f)[j]?=some (some r)) (hl:H r.hd=some (.dT (iH r.ks))):yE C P S (upd H r.hd (.dT (iH ks))) z (s.put f j (some {r with ks:=ks})):=by
 obtain⟨dx,h1⟩:=h.me
 obtain⟨dx1,vs1,f1,f2,f3,f4⟩:=id h.fr
 obtain⟨dx2,vs2,g1,g2,g3,g4⟩:=id h.sl
 have np:∀{c o},H c=some o->(∀us,o≠.dT us)->upd H r.hd (.dT (iH ks)) c=some o:=λ{c o} hc ho=>by rw[AE (λz=>by rw[z,hl] at hc;exact ho _ (cA hc).symm)];exact hc
 have bx2:∀q,some q∈(s.put f j (some {r with ks:=ks})).fr\/some q∈(s.put f j (some {r with ks:=ks})).sr->q.bx∉z.four:=λq hq=>(OR hq).elim (λe=>by
  cases e
  refine h.bx r ?_
  cases f with
  |true=>exact .inl (dA hr)
  |false=>exact .inr (dA hr)) (h.bx q)
 unfold Ap at hA
 rw[jH] at hA
 obtain⟨m1,m2,m3⟩:=fB.mp hA
 cases f with
 |true=>
  have hr:s.fr[j]?=some (some r):=hr
  have f5:s.tf.length=(s.fr.set j (some {r with ks:=ks})).length:=by rw[BA];exact f4.2
  have f4:=np f4.1 (λ_ z=>nomatch z)
  have len:=h.len
  have hh:=h.hh
  rw[<-BA (as:=s.fr) (i:=j) (a:=some {r with ks:=ks})] at len hh
  exact⟨⟨dx,np h1 (λ_ z=>nomatch z)⟩,⟨dx1,vs1,np f1 (λ_ z=>nomatch z),np f2 (λ_ z=>nomatch z),ZL hl f3 hr (λi q hi hq=>oQ m1 hr hq hi),f4,f5⟩,⟨dx2,vs2,np g1 (λ_ z=>nomatch z),np g2 (λ_ z=>nomatch z),bS hl g3 (λq hq e=>m3 r.hd (nJ.mpr ⟨r,dA hr,rfl⟩) q.hd (nJ.mpr ⟨q,hq,rfl⟩) e.symm),np g4.1 (λ_ z=>nomatch z),g4.2⟩,h.n4,bx2,len,hh⟩
 |false=>
  have hr:s.sr[j]?=some (some r):=hr
  have g5:s.ts.length=(s.sr.set j (some {r with ks:=ks})).length:=by rw[BA];exact g4.2
  have g4:=np g4.1 (λ_ z=>nomatch z)
  have len:=h.len
  rw[<-BA (as:=s.sr) (i:=j) (a:=some {r with ks:=ks})] at len
  exact⟨⟨dx,np h1 (λ_ z=>nomatch z)⟩,⟨dx1,vs1,np f1 (λ_ z=>nomatch z),np f2 (λ_ z=>nomatch z),bS hl f3 (λq hq e=>m3 q.hd (nJ.mpr ⟨q,hq,rfl⟩) r.hd (nJ.mpr ⟨r,dA hr,rfl⟩) e),np f4.1 (λ_ z=>nomatch z),f4.2⟩,⟨dx2,vs2,np g1 (λ_ z=>nomatch z),np g2 (λ_ z=>nomatch z),ZL hl g3 hr (λi q hi hq=>oQ m2 hr hq hi),g4,g5⟩,h.n4,bx2,len,h.hh⟩
theorem za {s:St} {f:Bool} {j:Nat} {a b:Option Sh}:(s.put f j a).put f j b=s.put f j b:=by
 cases f with
 |true=>show St.mk ((s.fr.set j a).set j b) s.sr s.h s.go s.ga s.cb s.tf s.ts=St.mk (s.fr.set j b) s.sr s.h s.go s.ga s.cb s.tf s.ts;rw[RB]
 |false=>show St.mk s.fr ((s.sr.set j a).set j b) s.h s.go s.ga s.cb s.tf s.ts=St.mk s.fr (s.sr.set j b) s.h s.go s.ga s.cb s.tf s.ts;rw[RB]
theorem Tw.put {s:St} {f:Bool} {j:Nat} {r r':Sh} (h:Tw s) (hr:(s.rw f)[j]?=some (some r)):Tw (s.put f j (some r')):=by
 cases f with
 |true=>exact⟨h.there,h.back,λa b hab=>by
  show ∃q,(s.fr.set j (some r'))[a]?=some (some q)
  obtain⟨q,hq⟩:=h.full a b hab
  rw[qA]
  split
  ·rename_i e
   subst e
   rw[iA (aA.mp hq).1]
   exact⟨_,rfl⟩
  ·exact⟨q,hq⟩,h.bare⟩
 |false=>exact⟨h.there,h.back,h.full,λa b hab=>by
  show (s.sr.set j (some r'))[b]?=some none
  have hb:=h.bare a b hab
  rw[qA,fA (λe=>?_)]
  ·exact hb
  ·subst e
   have hr:s.sr[j]?=some (some r):=hr
   rw[hb] at hr;cases hr⟩
noncomputable def als (rows:List (Option Sh)):List Sh:=rows.filterMap id
theorem WH {a b:List (Option Sh)}:als (a++b)=als a++als b:=by unfold als;rw[List.filterMap_append]
theorem MU {rows:List (Option Sh)} {r:Sh}:r∈als rows↔some r∈rows:=by
 unfold als
 rw[kC]
 exact⟨λ⟨_,h,e⟩=>by rw[<-show _=some r from e];exact h,λh=>⟨_,h,rfl⟩⟩
theorem CN:∀{rows:List (Option Sh)} {j:Nat} {r:Sh},rows[j]?=some none->(als (rows.set j (some r))).Perm (r::als rows):=by
 intro rows
 induction rows with
 |nil=>intro j r h;simp at h
 |cons x l ih=>
  intro j r h
  cases j with
  |zero=>
   simp at h
   subst h
   exact rB _
  |succ j=>
   have:=ih (j:=j) (r:=r) (by simpa using h)
   cases x with
   |none=>exact this
   |some y=>exact (List.Perm.cons y this).trans (List.Perm.swap ..)
theorem DN {rows:List (Option Sh)} {j:Nat} {q:Sh} (h:rows[j]?=some (some q)):(als rows).Perm (q::als (rows.set j none)):=by
 obtain⟨h1,h2⟩:=aA.mp h
 have:=CN (rows:=rows.set j none) (j:=j) (r:=q) (by rw[EA h1])
 rw[RB,<-h2,yB] at this
 exact this
theorem Ha {fr sr:List (Option Sh)} {i j:Nat} {q c:Sh} (hq:fr[i]?=some (some q)) (hc:sr[j]?=some (some c)):(als (fr.set i (some c)++sr.set j (some q))).Perm (als (fr++sr)):=by
 rw[WH,WH]
 have a1:=CN (rows:=fr.set i none) (j:=i) (r:=c) (EA (aA.mp hq).1)
 have a2:=CN (rows:=sr.set j none) (j:=j) (r:=q) (EA (aA.mp hc).1)
 rw[RB] at a1 a2
 refine (a1.append a2).trans (List.Perm.trans ?_ ((DN hq).append (DN hc)).symm)
 exact (List.Perm.cons _ YA).trans ((List.Perm.swap ..).trans (List.Perm.cons _ YA.symm))
theorem Ia {fr sr:List (Option Sh)} {i j:Nat} {c:Sh} (hi:fr[i]?=some none) (hc:sr[j]?=some (some c)):(als (fr.set i (some c)++sr.set j none)).Perm (als (fr++sr)):=by
 rw[WH,WH]
 refine ((CN hi).append_right _).trans (List.Perm.trans ?_ ((DN hc).append_left _).symm)
 exact YA.symm
noncomputable def WE (s:St):List Sh:=als (s.fr++s.sr)
noncomputable def Bx (s:St):Prop:=((WE s).map Sh.bx).Nodup
theorem yH {s:St} {r:Sh}:r∈WE s↔some r∈s.fr\/some r∈s.sr:=by unfold WE;rw[MU,GA]
theorem wH.als {s s1:St} {c:Option Nat} {ms:List Bool} {i:Nat} {ps:List Int} {out:Option (Nat×Sh)} (h:wH s c ms s1 i ps out) (hn:∀j q,out=some (j,q)->s.sr[j]?=some none):(WE s1).Perm (WE s):=by
 rcases h with ⟨h1,rfl,_,rfl⟩|⟨h1,q,j,hsw,hq,hsf,hj,rfl,rfl⟩
 ·exact rB _
 ·obtain⟨e1,e2,_⟩:=oK (s:={s with h:=(i+1) % s.fr.length}) (i:=i) (j:=j) (r:=q)
  unfold WE
  rw[e1,e2,WH,WH]
  refine ((rB _).append (CN (hn j q rfl))).trans ?_
  exact YA.trans ((DN hq).symm.append_right _)
theorem wH.alsF {s s1:St} {ms:List Bool} {i:Nat} {ps:List Int} {out:Option (Nat×Sh)} {r:Sh} (h:wH s none ms s1 i ps out) (hT:Tw s):(WE {s1 with fr:=s1.fr.set i (some r)}).Perm (r::WE s):=by
 obtain⟨f1,_⟩:=h.facts hT
 have f2:=h.als λj q e=>by
  rcases h with ⟨_,_,_,rfl⟩|⟨_,q2,j2,_,_,hsf,_,_,rfl⟩
  ·cases e
  ·cases e
   rcases kQ hT hsf with h|⟨h,_⟩
   ·exact h
   ·cases h
 refine List.Perm.trans ?_ (List.Perm.cons r f2)
 unfold WE
 show (Pf.als (s1.fr.set i (some r)++s1.sr)).Perm _
 rw[WH,WH]
 exact (CN f1).append_right _
theorem wH.alsB {s s1:St} {ms:List Bool} {i j:Nat} {ps:List Int} {out:Option (Nat×Sh)} {c:Sh} (h:wH s (some j) ms s1 i ps out) (hT:Tw s) (hc:s.sr[j]?=some (some c)):(WE (rF s1 i j c out)).Perm (WE s):=by
 obtain⟨b1,b2,_⟩:=AN (s1:=s1) (i:=i) (j:=j) (c:=c) (out:=out)
 obtain⟨f1,_⟩:=h.facts hT
 rcases h.slot hT hc with ⟨h1,q,h2,h3,h4⟩|⟨h1,h2,h3⟩
 ·rw[iA h1] at b2
  unfold WE
  rw[b1,b2,h3,h4,RB]
  exact Ha h2 hc
 ·rw[fA h1] at b2
  unfold WE
  rw[b1,b2]
  exact (Ia f1 h2).trans (h.als h3)
theorem pQ {s:St} {i j:Nat} (h:s.tf[i]?=some (some j)):untie s i=(s.tie true i none).tie false j none:=by unfold untie;rw[h]
theorem EN {s:St} {i:Nat} (h:∀j,s.tf[i]?≠some (some j)):untie s i=s:=by
 unfold untie
 split
 ·rename_i j e;exact absurd e (h j)
 ·rfl
theorem Tw.untie {s:St} {i:Nat} (h:Tw s):Tw (Pf.untie s i):=by
 cases e:s.tf[i]? with
 |none=>rw[EN (λj z=>by rw[e] at z;cases z)];exact h
 |some o=>
  cases o with
  |none=>rw[EN (λj z=>by rw[e] at z;cases z)];exact h
  |some j=>
   have hj:=h.there i j e
   rw[pQ e]
   refine⟨λa b hab=>?_,λa b hab=>?_,λa b hab=>?_,λa b hab=>?_⟩
   ·have hab:(s.tf.set i none)[a]?=some (some b):=hab
    show (s.ts.set j none)[b]?=some (some a)
    obtain⟨z1,z2⟩:=FI.mp hab
    have:=h.there a b z1
    refine FI.mpr ⟨this,λeb=>z2 ?_⟩
    rw[eb,hj] at this
    exact (cA (cA this)).symm
   ·have hab:(s.ts.set j none)[b]?=some (some a):=hab
    show (s.tf.set i none)[a]?=some (some b)
    obtain⟨z1,z2⟩:=FI.mp hab
    have:=h.back a b z1
    refine FI.mpr ⟨this,λea=>z2 ?_⟩
    rw[ea,e] at this
    exact (cA (cA this)).symm
   ·exact h.full a b (FI.mp (show (s.tf.set i none)[a]?=some (some b) from hab)).1
   ·exact h.bare a b (FI.mp (show (s.ts.set j none)[b]?=some (some a) from hab)).1
theorem Ap.untie {s:St} {i:Nat} (h:Ap s):Ap (Pf.untie s i):=by unfold Ap;rw[oJ.1,oJ.2.1];exact h
theorem Bx.untie {s:St} {i:Nat} (h:Bx s):Bx (Pf.untie s i):=by unfold Bx WE;rw[oJ.1,oJ.2.1];exact h
theorem NU {rows:List (Option Sh)} {i:Nat} {r r':Sh} (h:rows[i]?=some (some r)):(als (rows.set i (some r'))).Perm (r'::als (rows.set i none)):=by
 have:=CN (rows:=rows.set i none) (j:=i) (r:=r') (EA (aA.mp h).1)
 rw[RB] at this
 exact this
theorem FN {s:St} {f:Bool} {i:Nat} {r r':Sh} (h:Bx s) (hr:(s.rw f)[i]?=some (some r)) (e:r'.bx=r.bx):Bx (s.put f i (some r')):=by
 have go:∀{rows:List (Option Sh)},rows[i]?=some (some r)->((als (rows.set i (some r'))).map Sh.bx).Perm ((als rows).map Sh.bx):=λhr=>by
  refine ((NU hr).map Sh.bx).trans (List.Perm.trans ?_ ((DN hr).map Sh.bx).symm)
  rw[CA,CA,e]
 unfold Bx WE at *
 rw[WH,aB] at h
 cases f with
 |true=>
  show ((als (s.fr.set i (some r')++s.sr)).map Sh.bx).Nodup
  rw[WH,aB]
  exact ((go hr).append_right _).nodup_iff.mpr h
 |false=>
  show ((als (s.fr++s.sr.set i (some r'))).map Sh.bx).Nodup
  rw[WH,aB]
  exact ((go hr).append_left _).nodup_iff.mpr h
noncomputable def LF (s:St) (f:Bool) (j:Nat):St:=if f=true then untie (s.put true j none) j else s.put false j none
noncomputable def Kg (z:Ss) (d:Addr) (H H':Hp):Prop:=∀c o,H c=some o->c≠z.p->c∉z.four->c≠d->H' c=some o
theorem K1 {s:St} {f:Bool} {j:Nat} (h:Ap s):Ap (LF s f j):=by
 cases f with
 |true=>exact (j1 (f:=true) h).untie
 |false=>exact j1 (f:=false) h
theorem Tw.empt {s:St} {f:Bool} {j:Nat} {r:Sh} (h:Tw s) (hr:(s.rw f)[j]?=some (some r)):Tw (LF s f j):=by
 cases f with
 |true=>
  show Tw (Pf.untie (s.put true j none) j)
  have go:∀t u:List (Option Nat),(∀a b:Nat,t[a]?=some (some b)->s.tf[a]?=some (some b)/\a≠j)->(∀a b:Nat,u[b]?=some (some a)->s.ts[b]?=some (some a))->(∀a b:Nat,t[a]?=some (some b)->u[b]?=some (some a))->(∀a b:Nat,u[b]?=some (some a)->t[a]?=some (some b))->Tw {s with fr:=s.fr.set j none,tf:=t,ts:=u}:=λt u h1 h2 h3 h4=>⟨h3,h4,λa b hab=>by
   obtain⟨x1,x2⟩:=h1 a b hab
   show ∃q,(s.fr.set j none)[a]?=some (some q)
   rw[qA,fA (Ne.symm x2)]
   exact h.full a b x1,λa b hab=>h.bare a b (h2 a b hab)⟩
  cases e:s.tf[j]? with
  |none=>
   rw[EN (λk z=>by have z:s.tf[j]?=some (some k):=z;rw[e] at z;cases z)]
   exact go s.tf s.ts (λa b x=>⟨x,λz=>by rw[z,e] at x;cases x⟩) (λ_ _ x=>x) h.there h.back
  |some o=>
   cases o with
   |none=>
    rw[EN (λk z=>by have z:s.tf[j]?=some (some k):=z;rw[e] at z;cases z)]
    exact go s.tf s.ts (λa b x=>⟨x,λz=>by rw[z,e] at x;cases x⟩) (λ_ _ x=>x) h.there h.back
   |some k=>
    rw[pQ (show (s.put true j none).tf[j]?=some (some k) from e)]
    have hk:=h.there j k e
    refine go (s.tf.set j none) (s.ts.set k none) (λa b x=>FI.mp x) (λa b x=>(FI.mp x).1) (λa b x=>?_) (λa b x=>?_)
    ·obtain⟨x1,x2⟩:=FI.mp x
     have y:=h.there a b x1
     refine FI.mpr ⟨y,λz=>x2 ?_⟩
     rw[z,hk] at y
     exact (cA (cA y)).symm
    ·obtain⟨x1,x2⟩:=FI.mp x
     have y:=h.back a b x1
     refine FI.mpr ⟨y,λz=>x2 ?_⟩
     rw[z,e] at y
     exact (cA (cA y)).symm
 |false=>
  refine⟨h.there,h.back,h.full,λa b hab=>?_⟩
  have hb:=h.bare a b hab
  show (s.sr.set j none)[b]?=some none
  rw[qA]
  split
  ·rename_i e;subst e;rw[iA (aA.mp hb).1]
  ·exact hb
noncomputable def qQ (C P S:Addr):Sp:=λvs H Q _=>∃(z:Ss) (s:St) (t:Addr) (f:Bool) (j:Nat),vs=[.ref z.p,.ref t]/\yE C P S H z s/\H t=some (.tup [.str (BH f),.int j])/\j < (s.rw f).length/\(∀k,s.tf[j]?=some (some k)->k < s.sr.length)/\∀H',yE C P S H' z (LF s f j)->Ks z H H'->Q .non H'
theorem OU (T:bG K mg A):RE P w K mg base A.Aa "make_empty" 2 ["self","spot"] [] (qQ A.Aa A.Ad A.Ac):=by
 have Ay:=S0 (P:=P) (w:=w) (base:=base) T
 refine T.Br.have X9 (λvs H Q E z=>?_) ?_
 ·obtain⟨z,s,t,f,j,rfl,_⟩:=z;rfl
 ·intro f cdv A' outer s H vs Q E hr z
  obtain⟨z,s,t,f,j,rfl,hS,ht,hj,htw,q⟩:=z
  obtain⟨dx,h1⟩:=hS.me
  refine⟨_,(ME (VF (BF OI (IE CG (pE 1) EE (λ_ _=>rfl)) ZH (uE _)) (iF (IH wF (GH (YE (YE (pE 0) rfl) rfl) (IE CG (pE 1) EE (λ_ _=>rfl)) JH))
   (ME (qH (iI (pE 0) T.Ab Ay (hr.mono (by decide)) nF (sE (IE CG (pE 1) EE (λ_ _=>rfl)) zE))))) (ME (IH wF (GH (YE (YE (pE 0) rfl) rfl) (IE CG (pE 1) EE (λ_ _=>rfl)) JH))))),?_⟩
  walk_at "wp"
  simp only[h1]
  walk_at "wp"
  obtain⟨dx1,vs1,f1,f2,f3,f4⟩:=id hS.fr
  obtain⟨dx2,vs2,g1,g2,g3,g4⟩:=id hS.sl
  have l1:=Paired.length f3
  have l2:=Paired.length g3
  refine⟨_,oF.of ht,_,rfl,rfl,?_⟩
  cases f with
  |true=>
   rw[iA (show V.str (BH true)=V.str (Str.ofString "frame") from rfl)]
   have hj:j < s.fr.length:=hj
   have hS2:=hS.set (f:=true) (j:=j) (r:=none) f2 rfl (λq e=>nomatch e)
   obtain⟨dx9,h9⟩:=hS2.me
   have ht2:upd H z.ly (.lst (vs1.set j .non)) t=some (.tup [.str (BH true),.int (j:Int)]):=by rw[AE (qG ht f2 (λz=>nomatch z))];exact ht
   refine⟨T.Ab,T.Af,_,LH,z.fp,rfl,_,dx1,_,f1,T.Ae,T.Ag,_,AH,_,oF.of ht,_,rfl,z.ly,rfl,vs1,j,rfl,f2,j,DH (by rw[l1];exact hj),dx9,_,h9,UG (by decide+kernel),_,oF.of ht2,_,rfl,z,_,j,rfl,hS2,by show j < (s.fr.set j none).length;rw[BA];exact hj,htw,λH' a1 a2 a3=>q _ a1 ((YL (f:=true) (Ks.of sF)).trans a2)⟩
  |false=>
   rw[fA (by decide+kernel)]
   have hj:j < s.sr.length:=hj
   have hS2:=hS.set (f:=false) (j:=j) (r:=none) g2 rfl (λq e=>nomatch e)
   exact⟨T.Ab,T.Ah,_,qI,z.sq,rfl,_,dx2,_,g1,T.Ae,T.Ag,_,AH,_,oF.of ht,_,rfl,z.ls,rfl,vs2,j,rfl,g2,j,DH (by rw[l2];exact hj),q _ hS2 (YL (f:=false) (Ks.of sF))⟩
theorem M1 {kvs:List (List Key×V)} {k:List Key} {v:V} (h:HF kvs k=none):nG kvs k v=kvs++[(k,v)]:=by
 unfold nG
 rw[GS,h]
 rfl
theorem GN {ks:List (List Key)} {k:List Key} (h:k∉ks):HF (iH ks) k=none:=by
 induction ks with
 |nil=>rfl
 |cons x r ih=>
  show HF ((x,V.bl true)::iH r) k=_
  rw[bR (λe=>h (by rw[<-e];exact wA ..))]
  exact ih λz=>h (jA _ z)
noncomputable def Ja (C P S:Addr):Sp:=λvs H Q _=>∃(z:Ss) (s:St) (t h:Addr) (f:Bool) (j:Nat) (r:Sh) (k:List Key),vs=[.ref z.p,.ref t,.ref h]/\yE C P S H z s/\Ap s/\H t=some (.tup [.str (BH f),.int j])/\(s.rw f)[j]?=some (some r)/\H h=some (.tup (k.map kV))/\k∉r.ks/\r.ks.length<=2000/\
 ∀H',yE C P S H' z (s.put f j (some {r with ks:=r.ks++[k]}))->Ap (s.put f j (some {r with ks:=r.ks++[k]}))->Kg z r.hd H H'->(∀c,H' c=none->H c=none)->Q .non H'
theorem N1 (T:bG K mg A):RE P w K mg base A.Aa "hold" 2 ["self","spot","holder"] [] (Ja A.Aa A.Ad A.Ac):=by
 have Am:=RK (P:=P) (w:=w) (base:=base) T
 refine T.D7.have SZ (λvs H Q E z=>?_) ?_
 ·obtain⟨z,s,t,h,f,j,r,k,rfl,_⟩:=z;rfl
 ·intro f cdv A' outer s H vs Q E hr z
  obtain⟨z,s,t,h,f,j,r,k,rfl,hS,hA,ht,hrj,hh,hk,hl1,q⟩:=z
  obtain⟨dx,h1⟩:=hS.me
  refine⟨_,(iF (xF (i:=3) SZ.nd rfl (Or.inl rfl) (iI (pE 0) T.Ab Am (hr.mono (by decide)) nF (sE (pE 1) zE)))
   (ME (P5 (KS hr) (YE (pE 3) rfl) (pE 2) tK rfl))),?_⟩
  unfold aS pL
  walk_at "wp"
  simp only[h1]
  walk_at "wp"
  refine⟨UG (by decide+kernel),z,rfl,s,hS,f,j,ht,_,hrj,λv hv=>?_⟩
  obtain⟨rfl,⟨dx2,g1⟩,g2,g3⟩:=hv
  have hS2:=hS.ks (ks:=r.ks++[k]) hA hrj g3
  have hz:=PySem.sizeLine_eq
  have ep:nG (iH r.ks) k (.bl true)=iH (r.ks++[k]):=by
   rw[M1 (GN hk)]
   unfold iH
   rw[aB]
   rfl
  refine⟨r.sh,rfl,_,dx2,_,g1,T.An,T.Av,_,zU,r.hd,rfl,_,.inr ⟨iH r.ks,k,h,g3,rfl,hh,by unfold iH;rw[lA];omega,rfl⟩,?_⟩
  rw[ep]
  refine q _ hS2 (LU (r':={r with ks:=r.ks++[k]}) hA hrj rfl) (λc o hc _ _ hn=>by rw[AE hn];exact hc) λc hc=>?_
  by_cases e:c=r.hd
  ·rw[e,bF] at hc;cases hc
  ·rw[AE e] at hc;exact hc
noncomputable def O1 (C P S:Addr):Sp:=λvs H Q _=>∃(z:Ss) (s:St) (t:Addr) (f:Bool) (j:Nat) (r:Option Sh),vs=[.ref z.p,.ref t]/\yE C P S H z s/\H t=some (.tup [.str (BH f),.int j])/\(s.rw f)[j]?=some r/\(r=none->Q .non H)/\∀q,r=some q->∀l,H l=none->Q (.ref l) (upd H l (.lst (q.b.map V.int)))
theorem rQ (T:bG K mg A):RE P w K mg base A.Aa "sheet_at" 2 ["self","spot"] [] (O1 A.Aa A.Ad A.Ac):=by
 have Am:=RK (P:=P) (w:=w) (base:=base) T
 refine T.Cp.have UZ (λvs H Q E z=>?_) ?_
 ·obtain⟨z,s,t,f,j,r,rfl,_⟩:=z;rfl
 ·intro f cdv A' outer s H vs Q E hr z
  obtain⟨z,s,t,f,j,r,rfl,hS,ht,hrj,q1,q2⟩:=z
  obtain⟨dx,h1⟩:=hS.me
  refine⟨_,(iF (xF (i:=2) UZ.nd rfl (Or.inl rfl) (iI (pE 0) T.Ab Am (hr.mono (by decide)) nF (sE (pE 1) zE)))
   (ME (KF (UQ (BF bI (pE 2) wF (uE _)) wF (kO nP rfl T.Bd FB (sE (YE (pE 2) rfl) zE)))))),?_⟩
  unfold aS
  walk_at "wp"
  simp only[h1]
  walk_at "wp"
  refine⟨UG (by decide+kernel),z,rfl,s,hS,f,j,ht,_,hrj,λv hv=>?_⟩
  cases r with
  |none=>
   obtain rfl:v=.non:=hv
   rw[iA rfl]
   exact q1 rfl
  |some r=>
   obtain⟨rfl,⟨dx2,g1⟩,g2,g3⟩:=hv
   rw[fA (λz=>nomatch z)]
   exact⟨r.sh,rfl,_,dx2,_,g1,T.An,T.Au,_,NR,r.bx,rfl,_,.inl (xE.of g2),q2 r rfl⟩
noncomputable def sQ (C P S:Addr):Sp:=λvs H Q _=>∃(z:Ss) (s:St) (t:Addr) (f:Bool) (j:Nat) (r:Option Sh),vs=[.ref z.p,.ref t]/\yE C P S H z s/\H t=some (.tup [.str (BH f),.int j])/\(s.rw f)[j]?=some r/\(∀q,r=some q->cJ q)/\∀l H',H l=none->vE H H'->VH H' l (match r with|none=>[]|some q=>JF q.ks)->Q (.ref l) H'
theorem PU (T:bG K mg A):RE P w K mg base A.Aa "holders_of" 2 ["self","spot"] [] (sQ A.Aa A.Ad A.Ac):=by
 have Am:=RK (P:=P) (w:=w) (base:=base) T
 have Ak:=SR (P:=P) (w:=w) (base:=base) T
 refine T.Bp.have TZ (λvs H Q E z=>?_) ?_
 ·obtain⟨z,s,t,f,j,r,rfl,_⟩:=z;rfl
 ·intro f cdv A' outer s H vs Q E hr z
  obtain⟨z,s,t,f,j,r,rfl,hS,ht,hrj,hok,q⟩:=z
  obtain⟨dx,h1⟩:=hS.me
  refine⟨_,(iF (xF (i:=2) TZ.nd rfl (Or.inl rfl) (iI (pE 0) T.Ab Am (hr.mono (by decide)) nF (sE (pE 1) zE)))
   (ME (KF (UQ (BF bI (pE 2) wF (uE _)) (lH zE) (KH (pE 2) T.An Ak (hr.mono (by decide)) nF))))),?_⟩
  unfold aS QR
  walk_at "wp"
  simp only[h1]
  walk_at "wp"
  refine⟨UG (by decide+kernel),z,rfl,s,hS,f,j,ht,_,hrj,λv hv=>?_⟩
  cases r with
  |none=>
   obtain rfl:v=.non:=hv
   rw[iA rfl]
   exact λl hl=>q l _ hl (WF sF hl) ⟨[],bF,.nil⟩
  |some r=>
   obtain⟨rfl,⟨dx2,g1⟩,g2,g3⟩:=id hv
   rw[fA (λz=>nomatch z)]
   exact⟨r.sh,rfl,dx2,_,g1,RL (by decide+kernel),r,hv,hok r rfl,q⟩
noncomputable abbrev Tr:=List Int×List (List Key)×Option Nat
noncomputable def cS:Option Sh->Option Nat->Option Tr
 |none,_=>none
 |some r,o=>some (r.b,JF r.ks,o)
noncomputable def jG (fr:List (Option Sh)) (i:Nat):List Int:=match fr[i]? with
 |some (some r)=>r.b
 |_=>[]
noncomputable def tQ (fr:List (Option Sh)):Option Sh->Option Nat->Option Tr
 |some r,_=>some (r.b,JF r.ks,none)
 |none,none=>none
 |none,some i=>some (jG fr i,[],some i)
noncomputable def tF (s:St):List (Option Tr):=List.zipWith cS s.fr s.tf
noncomputable def tS (s:St):List (Option Tr):=List.zipWith (tQ s.fr) s.sr s.ts
noncomputable def HI (H:Hp) (xs:List Addr) (v:V):Option Tr->Prop
 |none=>v=.non
 |some (b,ks,o)=>∃t bl hl,v=.ref t/\H t=some (.tup [.ref bl,.ref hl,oV o])/\H bl=some (.lst (b.map V.int))/\VH H hl ks/\bl∉xs/\hl∉xs
theorem HI.keep {H H':Hp} {xs:List Addr} (hx:∀x∈xs,∃us,H x=some (.lst us)) (k:∀c o,H c=some o->c∉xs->(∀kvs,o≠.dT kvs)->H' c=some o) {v:V}:∀{r:Option Tr},HI H xs v r->HI H' xs v r
 |none,h=>h
 |some (_,_,_),⟨t,bl,hl,e,h1,h2,⟨us,h3,h4⟩,n1,n2⟩=>by
  have nt:∀{c us},H c=some (.tup us)->c∉xs:=λ{c us} hc z=>by
   obtain⟨vs,e⟩:=hx c z
   rw[hc] at e;cases e
  exact⟨t,bl,hl,e,k _ _ h1 (nt h1) (λ_ z=>nomatch z),k _ _ h2 n1 (λ_ z=>nomatch z),⟨us,k _ _ h3 n2 (λ_ z=>nomatch z),Paired.mapP h4 λ_ _ ⟨a,e,q⟩=>⟨a,e,k _ _ q (nt q) (λ_ z=>nomatch z)⟩⟩,n1,n2⟩
noncomputable def QU (k:List Key):Dv:=.seq true (k.map λx=>.leaf (kV x))
noncomputable def uQ (ks:List (List Key)):Dv:=.seq false (ks.map QU)
noncomputable def dS (bs:List Int):Dv:=.seq false (bs.map λx=>.leaf (.int x))
noncomputable def DO:Option Nat->Dv
 |none=>.leaf .non
 |some j=>.leaf (.int (j:Int))
theorem vQ {H:Hp} {o:Option Nat}:SF H (DO o) (oV o):=by
 cases o with
 |none=>unfold DO SF;exact⟨rfl,rfl⟩
 |some j=>unfold DO SF;exact⟨rfl,rfl⟩
noncomputable def LJ:Option Tr->Dv
 |none=>.leaf .non
 |some (b,ks,o)=>.seq true [dS b,uQ ks,DO o]
theorem P1 {H:Hp}:∀{bs:List Int},QE H (bs.map λx=>.leaf (.int x)) (bs.map V.int)
 |[]=>by unfold QE;rfl
 |b::bs=>by
  rw[CA,CA]
  unfold QE
  exact⟨_,_,rfl,by unfold SF;exact⟨rfl,rfl⟩,P1⟩
theorem Q1 {H:Hp}:∀{k:List Key},QE H (k.map λx=>.leaf (kV x)) (k.map kV)
 |[]=>by unfold QE;rfl
 |b::bs=>by
  rw[CA,CA]
  unfold QE
  exact⟨_,_,rfl,by unfold SF;exact⟨rfl,by cases b<;>rfl⟩,Q1⟩
theorem Ka {H:Hp} {l:Addr} {ks:List (List Key)} (h:VH H l ks) (hl:ks.length<=640) (hk:∀k∈ks,k.length<=640):SF H (uQ ks) (.ref l):=by
 obtain⟨us,h1,h2⟩:=h
 unfold uQ SF
 refine⟨l,us,rfl,h1,by rw[lA];omega,?_⟩
 clear h1 hl
 induction h2 with
 |nil=>rw[dC];unfold QE;rfl
 |@cons v k _ _ a t ih=>
  rw[CA]
  unfold QE
  obtain⟨b,rfl,hb⟩:=a
  refine⟨_,_,rfl,?_,ih λk hk'=>hk k (jA _ hk')⟩
  unfold QU SF
  exact⟨b,_,rfl,hb,by rw[lA];have:=hk k (wA ..);omega,Q1⟩
theorem wQ {H:Hp} {l:Addr} {bs:List Int} (h:H l=some (.lst (bs.map V.int))) (hl:bs.length<=640):SF H (dS bs) (.ref l):=by
 unfold dS SF
 exact⟨l,_,rfl,h,by rw[lA];omega,P1⟩
noncomputable def La (r:Sh):Prop:=r.b.length<=640/\(JF r.ks).length<=640/\∀k∈JF r.ks,k.length<=640
noncomputable def WM (r:Tr):Prop:=r.1.length<=640/\r.2.1.length<=640/\∀k∈r.2.1,k.length<=640
theorem HI.lks {H:Hp} {xs:List Addr} {v:V}:∀{r:Option Tr},HI H xs v r->(∀s,r=some s->WM s)->SF H (LJ r) v
 |none,h,_=>by unfold LJ SF;exact⟨h,rfl⟩
 |some (b,ks,o),⟨t,bl,hl,e,h1,h2,h3,n1,n2⟩,hb=>by
  obtain⟨b1,b2,b3⟩:=hb _ rfl
  unfold LJ SF
  refine⟨t,_,e,h1,by show (3:Nat) < 16777216;decide,?_⟩
  unfold QE
  refine⟨_,_,rfl,wQ h2 b1,?_⟩
  unfold QE
  refine⟨_,_,rfl,Ka h3 b2 b3,?_⟩
  unfold QE
  exact⟨_,_,rfl,vQ,by unfold QE;rfl⟩
theorem RU {H:Hp} {xs:List Addr} {vs:List V} {rows:List (Option Tr)} (h:Paired (HI H xs) vs rows) (ok:∀r,some r∈rows->WM r):QE H (rows.map LJ) vs:=by
 induction h with
 |nil=>rw[dC];unfold QE;rfl
 |cons r t ih=>
  rw[CA]
  unfold QE
  exact⟨_,_,rfl,r.lks (λs e=>ok s (by rw[e];exact wA ..)),ih λr hr=>ok r (jA _ hr)⟩
noncomputable def aM (rows:List (Option Sh)):Prop:=∀r,some r∈rows->cJ r/\La r
theorem SU {α β γ:Type} {f:α->β->γ}:∀{as:List α} {bs:List β} {c:γ},c∈List.zipWith f as bs->∃a b,a∈as/\b∈bs/\f a b=c
 |[],_,c,h=>by simp at h
 |_::_,[],c,h=>by simp at h
 |a::as,b::bs,c,h=>by
  rw[List.zipWith_cons_cons] at h
  rcases xA.mp h with e|h
  ·exact⟨a,b,wA .., wA .., e.symm⟩
  ·obtain⟨x,y,h1,h2,h3⟩:=SU h
   exact⟨x,y,jA _ h1,jA _ h2,h3⟩
theorem bM {s:St} (ok:aM s.fr) {r:Tr} (h:some r∈tF s):WM r:=by
 unfold tF at h
 obtain⟨a,b,h1,_,h3⟩:=SU h
 cases a with
 |none=>cases h3
 |some q=>cases h3;exact (ok q h1).2
theorem cM {s:St} (ok0:aM s.fr) (ok:aM s.sr) {r:Tr} (h:some r∈tS s):WM r:=by
 unfold tS at h
 obtain⟨a,b,h1,_,h3⟩:=SU h
 cases a with
 |some q=>cases h3;exact (ok q h1).2
 |none=>
  cases b with
  |none=>cases h3
  |some i=>
   cases h3
   refine⟨?_,fC _,λk hk=>by cases hk⟩
   show (jG s.fr i).length<=640
   unfold jG
   split
   ·rename_i q e
    exact (ok0 q (dA e)).2.1
   ·exact fC _
noncomputable def xQ (C P S:Addr):Sp:=λvs H Q _=>∃(z:Ss) (s:St),vs=[.ref z.p]/\yE C P S H z s/\aM s.fr/\∀H' l,vE H H'->H l=none->SF H' (.seq false ((tF s).map LJ)) (.ref l)->Q (.ref l) H'
theorem TU (T:bG K mg A):RE P w K mg base A.Aa "told_frames" 2 ["self"] [] (xQ A.Aa A.Ad A.Ac):=by
 have Ak:=SR (P:=P) (w:=w) (base:=base) T
 refine T.Bj.have JR (λvs H Q E z=>?_) ?_
 ·obtain⟨z,s,rfl,_⟩:=z;rfl
 ·intro f cdv A' outer s H vs Q E hr z
  obtain⟨z,s,rfl,hS,ok,q⟩:=z
  obtain⟨dx,h1⟩:=hS.me
  obtain⟨dx1,us,f1,f2,f3,f4,f5⟩:=id hS.fr
  have hlen:(tF s).length=s.fr.length:=by unfold tF;rw[aC];omega
  have hul:=Paired.length f3
  refine⟨_,(iF (xF (i:=1) JR.nd rfl (Or.inl rfl) (lH zE))
   (iF (GJ jB rfl (WY rfl T.Db (sE (YE (YE (pE 0) rfl) rfl) zE)) (ZX (n:=2) rfl (WQ (KG (i:=2) JR.nd rfl (Or.inl rfl)) (WQ (KG (i:=3) JR.nd rfl (Or.inl rfl)) YX))) (ME (VF (BF bI (pE 3) wF (uE _)) (ME (qH (PJ PySem.F.plainAttrs_list PySem.F.slot_list_append PySem.F.type_list_append QJ (pE 1) (sE wF zE)))) (ME (qH (PJ PySem.F.plainAttrs_list PySem.F.slot_list_append PySem.F.type_list_append QJ (pE 1) (sE (mH (sE (kO nP rfl T.Bd FB (sE (YE (pE 3) rfl) zE)) (sE (KH (pE 3) T.An Ak (hr.mono (by decide)) nF) (sE (IE eF (YE (YE (pE 0) rfl) rfl) (pE 2) (λ_ _=>rfl)) zE)))) zE)))))))
   (ME (KF (pE 1))))),?_⟩
  unfold QR
  walk_at "wp"
  intro tl htl
  have b1:=WF (o:=.lst []) (sF (H:=H)) htl
  refine⟨_,dx,_,b1 _ _ h1,T.Ab,T.Af,_,LH,z.fp,rfl,_,dx1,_,b1 _ _ f1,T.Ae,T.Ag,_,AH,z.ly,rfl,⟨_,xE.of (b1 _ _ f2)⟩,XY (xs:=us) (λi σ H'=>∃ys v2 v3,σ=[some (.ref z.p),some (.ref tl),v2,v3]/\vE H H'/\H' tl=some (.lst ys)/\Paired (HI H' [tl]) ys ((tF s).take i)) ⟨[],_,_,rfl,b1,bF,.nil⟩ (λi σ H' _ ⟨_,_,_,_,e,_⟩=>xE.of (e _ _ f2)) (λi x tt σ H' hi=>?_) (λσ H1=>?_)⟩
  ·rintro⟨ys,v2,v3,rfl,s1,hy,hP⟩ htt
   obtain⟨y,hy1,hy2⟩:=BI f3 hi
   have b2:=WF (o:=.tup [V.int i,x]) (sF (H:=H')) htt
   have htt':upd H' tt (.tup [V.int i,x]) tt=some (.tup [V.int i,x]):=bF
   have hil:i < s.fr.length:=(aA.mp hy1).1
   obtain⟨o,ho⟩:∃o,s.tf[i]?=some o:=⟨_,bA (by omega)⟩
   have htk:(tF s).take (i+1)=(tF s).take i++[cS y o]:=by rw[pB,show (tF s)[i]?=some (cS y o) by unfold tF;rw[KC,hy1,ho]];rfl
   walk_at "wp"
   generalize upd H' tt (.tup [V.int i,x])=H2 at *
   refine⟨_,oF.of htt',rfl,_,_,rfl,_,_,rfl,rfl,?_⟩
   have hyl:=Paired.length hP
   rw[XA] at hyl
   have hl64:=hS.len.1
   have s2:=s1.trans b2
   have hy2':=b2 _ _ hy
   have hk:∀{H3 H4:Hp} {ws:List V},vE H2 H3->H4=upd H3 tl (.lst ws)->Paired (HI H4 [tl]) ys ((tF s).take i):=λ{H3 H4 ws} s3 e=>Paired.mapP hP λ_ _ q=>q.keep (xs:=[tl]) (λx hx=>⟨ys,by rw[kA.mp hx];exact hy⟩) (λc o hc hn _=>by rw[e,AE (λz=>hn (by simp[z]))];exact s3 _ _ (b2 _ _ hc))
   cases y with
   |none=>
    obtain rfl:x=.non:=hy2
    rw[iA rfl]
    refine⟨.inl ⟨rfl,_,xE.of hy2'⟩,ys,hy2',by omega,pH s2 htl,_,rfl,?_⟩
    rw[htk]
    exact dJ (hk sF rfl) rfl
   |some r=>
    obtain⟨rfl,⟨dxr,g1⟩,g2,g3⟩:=id hy2
    rw[fA (λz=>nomatch z)]
    refine⟨.inl ⟨rfl,_,xE.of hy2'⟩,r.sh,rfl,_,dxr,_,s2 _ _ g1,T.An,T.Au,_,NR,r.bx,rfl,_,.inl (xE.of (s2 _ _ g2)),λbl hbl=>?_⟩
    have b3:=WF (o:=.lst (r.b.map V.int)) (sF (H:=H2)) hbl
    have hbl3:upd H2 bl (.lst (r.b.map V.int)) bl=some (.lst (r.b.map V.int)):=bF
    generalize upd H2 bl (.lst (r.b.map V.int))=H3 at *
    have s3:=s2.trans b3
    refine⟨r.sh,rfl,dxr,_,s3 _ _ g1,RL (by decide+kernel),r,lF.same s3 hy2,(ok r (dA hy1)).1,λhl H4 hhl s4 a1=>?_⟩
    have s5:=s3.trans s4
    have hbl4:=s4 _ _ hbl3
    refine⟨_,dx,_,s5 _ _ h1,T.Ab,T.Af,_,LH,z.fp,rfl,_,dx1,_,s5 _ _ f1,T.Ae,T.Ai,_,KI,z.tw,rfl,_,_,rfl,xE.of (s5 _ _ f4),oV o,HE (by rw[NA,ho];rfl),λnp hnp=>?_⟩
    have b5:=WF (o:=.tup [V.ref bl,V.ref hl,oV o]) (sF (H:=H4)) hnp
    have s24:vE H2 H4:=b3.trans s4
    have htl5:=b5 _ _ (s24 _ _ hy2')
    refine⟨ys,htl5,by omega,pH (s5.trans b5) htl,_,rfl,?_⟩
    rw[htk]
    have nb:bl≠tl:=(NF hy2' hbl).symm
    have nh:hl≠tl:=(NF (b3 _ _ hy2') hhl).symm
    have nn:np≠tl:=(NF (s24 _ _ hy2') hnp).symm
    exact dJ (hk (s24.trans b5) rfl) ⟨np,bl,hl,rfl,by rw[AE nn,bF],by rw[AE nb];exact b5 _ _ hbl4,(let ⟨us9,a2,a3⟩:=a1;⟨us9,by rw[AE nh];exact b5 _ _ a2,Paired.mapP a3 λ_ _ ⟨a9,e9,q9⟩=>⟨a9,e9,by rw[AE (qG q9 (s24 _ _ hy2') (λz=>nomatch z))];exact b5 _ _ q9⟩⟩),by simpa using nb,by simpa using nh⟩
  rintro⟨ys,v2,v3,rfl,s1,hy,hP⟩
  walk_at "wp"
  rw[hul,<-hlen,mB] at hP
  refine q _ tl s1 htl ?_
  unfold SF
  exact⟨tl,ys,rfl,hy,by rw[lA,hlen];have:=hS.len.1;omega,RU hP λr hr=>bM ok hr⟩
noncomputable def dM (C P S:Addr):Sp:=λvs H Q _=>∃(z:Ss) (s:St) (j:Nat) (r:Option Sh) (o:Option Nat),vs=[.ref z.p,.int j]/\yE C P S H z s/\Tw s/\s.sr[j]?=some r/\s.ts[j]?=some o/\(∀q,r=some q->cJ q)/\∀v H',vE H H'->(∀xs:List Addr,(∀x∈xs,H x≠none)->HI H' xs v (tQ s.fr r o))->Q v H'
theorem UU (T:bG K mg A):RE P w K mg base A.Aa "told_slot" 3 ["self","slot"] [] (dM A.Aa A.Ad A.Ac):=by
 have Ak:=SR (P:=P) (w:=w) (base:=base) T
 have C2:=rQ (P:=P) (w:=w) (base:=base) T
 refine T.B5.have bU (λvs H Q E z=>?_) ?_
 ·obtain⟨z,s,j,r,o,rfl,_⟩:=z;rfl
 ·intro f cdv A' outer s H vs Q E hr z
  obtain⟨z,s,j,r,o,rfl,hS,hT,hrj,hoj,hok,q⟩:=z
  obtain⟨dx,h1⟩:=hS.me
  obtain⟨dx1,us,f1,f2,f3,f4,f5⟩:=id hS.sl
  obtain⟨v,hv1,hv2⟩:=BJ f3 hrj
  have hj:=(aA.mp hrj).1
  refine⟨_,(iF (xF (i:=2) bU.nd rfl (Or.inl rfl) (IE eF (YE (YE (pE 0) rfl) rfl) (pE 1) (λ_ _=>rfl)))
   (zF (xF (i:=3) bU.nd rfl (Or.inl rfl) (IE eF (YE (YE (pE 0) rfl) rfl) (pE 1) (λ_ _=>rfl)))
   (iF (VF (BF cI (pE 2) wF (uE _)) (ME (KF (mH (sE (kO nP rfl T.Bd FB (sE (YE (pE 2) rfl) zE)) (sE (KH (pE 2) T.An Ak (hr.mono (by decide)) nF) (sE wF zE)))))) mG)
   (iF (VF (BF cI (pE 3) wF (uE _)) (ME (KF (mH (sE (iI (pE 0) T.Ab C2 (hr.mono (by decide)) nF (sE (mH (sE ZH (sE (pE 3) zE))) zE)) (sE (lH zE) (sE (pE 3) zE)))))) mG)
   (ME (KF wF)))))),?_⟩
  walk_at "wp"
  simp only[h1]
  walk_at "wp"
  refine⟨T.Ab,T.Ah,_,qI,z.sq,rfl,_,dx1,_,f1,T.Ae,T.Ag,_,AH,z.ls,rfl,us,xE.of f2,v,HE hv1,?_⟩
  refine⟨λσ H'=>σ=[some (.ref z.p),some (.int (j:Int)),some v,some (oV o)]/\H'=H,?_,λσ' H'=>?_⟩
  ·walk_at "wp"
   simp only[h1]
   walk_at "wp"
   exact⟨T.Ab,T.Ah,_,qI,z.sq,rfl,_,dx1,_,f1,T.Ae,T.Ai,_,KI,z.ts,rfl,_,xE.of f4,oV o,HE (by rw[NA,hoj];rfl),rfl⟩
  rintro⟨rfl,rfl⟩
  cases r with
  |none=>
   obtain rfl:v=.non:=hv2
   cases o with
   |none=>
    unfold oV
    walk_at "wp"
    exact gF (gF (q _ _ sF λ_ _=>rfl))
   |some i=>
    unfold oV O1
    obtain⟨r,hri⟩:=hT.full i j (hT.back i j hoj)
    have eb:jG s.fr i=r.b:=by unfold jG;rw[hri]
    walk_at "wp"
    refine gF (EI (by rw[vA (λz=>nomatch z)];rfl) ⟨dx,_,h1,UG (by decide+kernel),λp hp=>?_⟩)
    obtain⟨s1,k1⟩:=UF (o:=.tup [V.str (Str.ofString "frame"),V.int (i:Int)]) hp
    refine⟨z,rfl,s,hS.same s1,true,i,rfl,some r,hri,(λe=>by cases e),λq2 e l hl p2 hp2 p3 hp3=>?_⟩
    obtain rfl:r=q2:=cA e
    obtain⟨s2,k2⟩:=UF (o:=.lst (r.b.map V.int)) hl
    obtain⟨s3,k3⟩:=UF (o:=.lst []) hp2
    obtain⟨s4,k4⟩:=UF (o:=.tup [V.ref l,V.ref p2,V.int (i:Int)]) hp3
    refine q _ _ (((s1.trans s2).trans s3).trans s4) λxs hx=>?_
    show HI _ xs _ (some (jG s.fr i,[],some i))
    rw[eb]
    exact⟨p3,l,p2,rfl,k4,s4 _ _ (s3 _ _ k2),⟨[],s4 _ _ k3,.nil⟩,λz=>hx _ z (cG s1 hl),λz=>hx _ z (cG (s1.trans s2) hp2)⟩
  |some r=>
   obtain⟨rfl,⟨dxr,g1⟩,g2,g3⟩:=id hv2
   unfold QR
   walk_at "wp"
   refine oG ⟨_,dxr,_,g1,T.An,T.Au,_,NR,r.bx,rfl,_,.inl (xE.of g2),λbl hbl=>?_⟩
   obtain⟨s1,k1⟩:=UF (o:=.lst (r.b.map V.int)) hbl
   generalize upd H' bl _=H1 at *
   refine⟨dxr,_,s1 _ _ g1,RL (by decide+kernel),r,lF.same s1 hv2,hok r rfl,λhl H2 hhl s2 htd t ht=>?_⟩
   have s3:vE H2 (upd H2 t (.tup [V.ref bl,V.ref hl,V.non])):=WF sF ht
   exact q _ _ (s1.trans (s2.trans s3)) λxs hx=>⟨t,bl,hl,rfl,bF,s3 _ _ (s2 _ _ k1),htd.same s3,λz=>hx _ z hbl,λz=>hx _ z (cG s1 hhl)⟩
noncomputable def HN (C P S:Addr):Sp:=λvs H Q _=>∃(z:Ss) (s:St),vs=[.ref z.p]/\yE C P S H z s/\Tw s/\aM s.fr/\aM s.sr/\∀H' l,vE H H'->H l=none->SF H' (.seq false ((tS s).map LJ)) (.ref l)->Q (.ref l) H'
theorem yQ (T:bG K mg A):RE P w K mg base A.Aa "told_slots" 4 ["self"] [] (HN A.Aa A.Ad A.Ac):=by
 have Cj:=UU (P:=P) (w:=w) (base:=base) T
 refine T.Bq.have U9 (λvs H Q E z=>?_) ?_
 ·obtain⟨z,s,rfl,_⟩:=z;rfl
 ·intro f cdv A' outer s H vs Q E hr z
  obtain⟨z,s,rfl,hS,hT,ok0,ok,q⟩:=z
  obtain⟨dx,h1⟩:=hS.me
  obtain⟨dx1,us,f1,f2,f3,f4,f5⟩:=id hS.sl
  have hlen:(tS s).length=s.sr.length:=by unfold tS;rw[aC];omega
  refine⟨_,(ME (KF (HJ rfl (iJ rfl T.Ao (sE (QF MG rfl T.Aj PySem.boot_len (sE (YE (YE (pE 0) rfl) rfl) zE)) zE)) (x:="slot") (fs:=["self"]) (ix:=[0]) rfl rfl (λ_ _ _ _ _ _=>(KG (i:=0) (show (["slot","self"]:List Str).Nodup by decide+kernel) rfl (Or.inl rfl))) (λ_ _ _ _ _ _=>wK) (λ_ _ _ _ _ _=>(iI (pE 1) T.Ab Cj (hr.mono (by decide)) tL (sE (pE 0) zE)))))),?_⟩
  unfold dM
  walk_at "wp"
  simp only[h1]
  walk_at "wp"
  have hul:=Paired.length f3
  have hm:=hS.len.2
  have hz:=PySem.sizeLine_eq
  refine⟨T.Ab,T.Ah,_,qI,z.sq,rfl,_,dx1,_,f1,T.Ae,T.Ag,_,AH,_,.inl ⟨_,xE.of f2,rfl⟩,by omega,by omega,λD hD=>?_⟩
  refine LK (λi ys σ H'=>∃v,σ=[v,some (.ref z.p)]/\vE H H'/\H' D=some (.lst ys)/\Paired (HI H' [D]) ys ((tS s).take i)) ⟨_,rfl,WF sF hD,bF,.nil⟩ (λi ys σ H' hi=>?_) (λys σ H5=>?_)
  ·rintro⟨v,rfl,s1,hD1,hP⟩
   have hil:i < s.sr.length:=by omega
   have hrow:s.sr[i]?=some s.sr[i]:=bA hil
   obtain⟨o,ho⟩:∃o,s.ts[i]?=some o:=⟨_,bA (by omega)⟩
   have htk:(tS s).take (i+1)=(tS s).take i++[tQ s.fr s.sr[i] o]:=by rw[pB,show (tS s)[i]?=some (tQ s.fr s.sr[i] o) by unfold tS;rw[KC,hrow,ho]];rfl
   have hyl:=Paired.length hP
   rw[XA] at hyl
   generalize s.sr[i]=r at *
   walk_at "wp"
   refine⟨dx,_,s1 _ _ h1,UG (by decide+kernel),z,rfl,s,i,by omega,hS.same s1,hT,r,hrow,o,ho,(λq e=>(ok q (by rw[<-e];exact dA hrow)).1),λv H2 s2 hw=>?_⟩
   have hD2:=s2 _ _ hD1
   refine⟨hD2,by omega,pH (s1.trans s2) hD,?_⟩
   rw[htk]
   have w2:=hw [D] (λx hx=>by rw[kA.mp hx,hD1];exact λz=>nomatch z)
   have kp:∀{u:V} {r:Option Tr},HI H2 [D] u r->HI (upd H2 D (.lst (ys++[v]))) [D] u r:=λh=>h.keep (xs:=[D]) (λx hx=>⟨ys,by rw[kA.mp hx];exact hD2⟩) (λc o hc hn _=>by rw[AE (λz=>hn (by simp[z]))];exact hc)
   exact dJ (Paired.mapP hP λ_ _ h=>kp (h.keep (xs:=[D]) (λx hx=>⟨ys,by rw[kA.mp hx];exact hD1⟩) (λc o hc _ _=>s2 _ _ hc))) (kp w2)
  ·rintro⟨v,rfl,s1,hD1,hP⟩
   rw[hul,vB,<-hlen,mB] at hP
   refine q _ D s1 hD ?_
   unfold SF
   exact⟨D,ys,rfl,hD1,by rw[lA,hlen];omega,RU hP λr hr=>cM ok0 ok hr⟩
noncomputable def pK (k:List Key):Bool:=decide (k.head?=some (.inr (Str.ofString "bank")))
noncomputable def nI (ks:List (List Key)):Bool:=ks.any pK
theorem Ma {CX:CXT} {P:Program} {w:World} {K:PySem.W.Frag} {mg:Str->Option Value} {base:Heap} {N:List Str} {qual:Str} {scope:Scope} {f:Addr} {cd:Value} {A:Around} {outer:List Env} {s:Shared} {H:Hp} {E:XK}:(gG CX P w K mg base N qual scope f cd A outer s H E).H₀=H:=rfl
noncomputable def IN (C:Addr):Sp:=λvs H Q _=>∃(v:V) (r:Sh),vs=[v]/\lF C H v (some r)/\(∀k∈r.ks,uG k)/\r.ks.length<=2000/\∀H',vE H H'->Q (.bl (nI r.ks)) H'
theorem zQ (T:bG K mg A):RE P w K mg base A.Ac "is_banked" 1 ["self"] [] (IN A.Ac):=by
 refine T.Co.have I9 (λvs H Q E z=>?_) ?_
 ·obtain⟨v,r,rfl,_⟩:=z;rfl
 ·intro f cdv A' outer s H vs Q E hr z
  obtain⟨v,r,rfl,⟨rfl,⟨dx,h1⟩,h2,h3⟩,htr,hl,q⟩:=z
  have hz:=PySem.sizeLine_eq
  refine⟨_,(ME (Y7 (KF (QF (o7 rfl) rfl T.Gf (by decide+kernel) (sE (HJ rfl (f8 (YE (pE 0) rfl)) (x:="holder") (fs:=[]) (ix:=[]) rfl rfl (λ_ _ _ _ _ _=>(KG (i:=0) (show (["holder"]:List Str).Nodup by decide+kernel) rfl (Or.inl rfl))) (λ_ _ _ _ _ _=>wK) (λ_ _ _ _ _ _=>(AM OI (IE (cZ (K:=K) rfl) (pE 0) EE (λ_ _=>rfl)) ZH (uE _)))) zE))))),?_⟩
  refine⟨r.hd,?_,?_⟩
  ·intro o u
   rw[Ma,h3]
   exact λz=>nomatch z
  unfold aJ fK
  walk_at "wp"
  refine⟨_,dx,_,h1,T.An,T.Av,_,zU,r.hd,rfl,iH r.ks,h3,λo D hD=>?_⟩
  have hk2:∀b u,H b=some u->b≠r.hd->upd H r.hd (.frz o (.dT (iH r.ks))) b=some u:=λb u h hb=>by rw[AE hb];exact h
  have ha2:upd H r.hd (.frz o (.dT (iH r.ks))) r.hd=some (.frz o (.dT (iH r.ks))):=bF
  generalize upd H r.hd (.frz o (.dT (iH r.ks)))=H2 at *
  have hDa:D≠r.hd:=λz=>by rw[z,ha2] at hD;cases hD
  have hD0:H D=none:=by
   cases e:H D with
   |none=>rfl
   |some u=>rw[hk2 D u e hDa] at hD;cases hD
  refine o8 (λi ys σ H'=>∃v0,σ=[v0]/\(∀b u,H b=some u->b≠r.hd->H' b=some u)/\H' r.hd=some (.frz o (.dT (iH r.ks)))/\ys=((r.ks.take i).map pK).map V.bl/\H' D=some (.lst ys)) ⟨_,rfl,λb u h hb=>?_,?_,rfl,bF⟩ (λi ys σ H' _ ⟨_,_,_,e,_⟩=>e) (λi k x b ys σ H' hi hb=>?_) (λys σ H'=>?_)
  ·rw[AE (NF h hD0)];exact hk2 b u h hb
  ·rw[AE (Ne.symm hDa)];exact ha2
  ·rintro⟨v0,rfl,hk,ha,rfl,hD'⟩
   obtain⟨hki,rfl⟩:r.ks[i]?=some k/\x=V.bl true:=by
    unfold iH at hi
    rw[NA] at hi
    cases e:r.ks[i]? with
    |none=>rw[e] at hi;cases hi
    |some y=>rw[e] at hi;cases hi;exact⟨rfl,rfl⟩
   obtain⟨s1,a1,b1,rfl⟩:=htr k (dA hki)
   have hil:=(aA.mp hki).1
   have htk:r.ks.take (i+1)=r.ks.take i++[[.inr s1,.inl a1,.inl b1]]:=by rw[pB,hki];rfl
   walk_at "wp"
   refine⟨_,oF.of hb,.str s1,HE (j:=0) rfl,rfl,hD',by rw[lA,lA,XA];omega,λb u h hb9=>?_,?_,?_⟩
   ·rw[AE (NF h hD0)];exact hk b u h hb9
   ·rw[AE (Ne.symm hDa)];exact ha
   ·have e9:decide (V.str s1=V.str (Str.ofString "bank"))=pK [.inr s1,.inl a1,.inl b1]:=by
     unfold pK
     by_cases e:s1=Str.ofString "bank"
     ·subst e;exact (AA rfl).trans (AA rfl).symm
     ·exact (vA (λz=>e (V.str.inj z))).trans (vA (λz=>e (XD (cA z)))).symm
    rw[e9,htk,aB,aB]
    rfl
  ·rintro⟨v0,rfl,hk,ha,rfl,hD'⟩
   have hkl:(iH r.ks).length=r.ks.length:=by unfold iH;rw[lA]
   rw[hkl,mB] at hD'
   refine⟨r.ks.map pK,xE.of hD',?_⟩
   have hk4:vE H (upd H' r.hd (.dT (iH r.ks))):=λc u h=>by
    by_cases hc:c=r.hd
    ·rw[hc,bF,<-h3,<-h,hc]
    ·rw[AE hc];exact hk _ _ h hc
   rw[X7 ha]
   have:=q _ hk4
   unfold nI at this
   rw[List.any_map]
   exact this
noncomputable def EH (H:Hp) (v:V) (p:Bool×Nat):Prop:=∃a,v=.ref a/\H a=some (.tup [.str (BH p.1),.int (p.2:Int)])
theorem EH.same {H H':Hp} {v:V} {p:Bool×Nat} (h:EH H v p) (s:vE H H'):EH H' v p:=let ⟨a,e,q⟩:=h;⟨a,e,s _ _ q⟩
noncomputable def spA (s:St):List (Bool×Nat):=(List.range s.fr.length).map (true,·)++(List.range s.sr.length).map (false,·)
theorem VU {α β:Type} {R:α->β->Prop} {as cs:List α} {bs ds:List β} (h:Paired R as bs) (h2:Paired R cs ds):Paired R (as++cs) (bs++ds):=by
 induction h with
 |nil=>exact h2
 |cons r t ih=>exact .cons r ih
noncomputable def JN (C P S:Addr):Sp:=λvs H Q _=>∃(z:Ss) (s:St),vs=[.ref z.p]/\yE C P S H z s/\∀H' l us,vE H H'->H l=none->H' l=some (.lst us)->Paired (EH H') us (spA s)->Q (.ref l) H'
theorem AQ (T:bG K mg A):RE P w K mg base A.Aa "all_spots" 1 ["self"] [] (JN A.Aa A.Ad A.Ac):=by
 refine T.B4.have WZ (λvs H Q E z=>?_) ?_
 ·obtain⟨z,s,rfl,_⟩:=z;rfl
 ·intro f cdv A' outer s H vs Q E hr z
  obtain⟨z,s,rfl,hS,q⟩:=z
  obtain⟨dx,h1⟩:=hS.me
  obtain⟨dx1,us1,f1,f2,f3,f4,f5⟩:=id hS.fr
  obtain⟨dx2,us2,g1,g2,g3,g4,g5⟩:=id hS.sl
  have l1:=Paired.length f3
  have l2:=Paired.length g3
  have h64:=hS.len
  have hz:=PySem.sizeLine_eq
  have rgn:∀(b:Bool) (i:Nat),(List.range (i+1)).map (λx=>(b,x))=(List.range i).map (λx=>(b,x))++[(b,i)]:=λb i=>by rw[lE,aB];rfl
  refine⟨_,(iF (vP (i:=1) WZ.nd rfl rfl rfl (iJ rfl T.Ao (sE (QF MG rfl T.Aj PySem.boot_len (sE (YE (YE (pE 0) rfl) rfl) zE)) zE)) (x:="frame") (fs:=[]) (ix:=[]) rfl rfl (λ_ _ _ _ _ _=>(KG (i:=0) (show (["frame"]:List Str).Nodup by decide+kernel) rfl (Or.inl rfl))) (λ_ _ _ _ _ _=>wK) (λ_ _ _ _ _ _=>(mH (sE ZH (sE (pE 0) zE)))))
   (ME (KF (jF ES (pE 1) (HJ rfl (iJ rfl T.Ao (sE (QF MG rfl T.Aj PySem.boot_len (sE (YE (YE (pE 0) rfl) rfl) zE)) zE)) (x:="slot") (fs:=[]) (ix:=[]) rfl rfl (λ_ _ _ _ _ _=>(KG (i:=0) (show (["slot"]:List Str).Nodup by decide+kernel) rfl (Or.inl rfl))) (λ_ _ _ _ _ _=>wK) (λ_ _ _ _ _ _=>(mH (sE ZH (sE (pE 0) zE))))))))),?_⟩
  walk_at "wp"
  simp only[h1]
  walk_at "wp"
  refine⟨T.Ab,T.Af,_,LH,z.fp,rfl,_,dx1,_,f1,T.Ae,T.Ag,_,AH,_,.inl ⟨_,xE.of f2,rfl⟩,by omega,by omega,λD hD=>?_⟩
  refine LK (λi ys σ H'=>∃v,σ=[v]/\vE H H'/\H' D=some (.lst ys)/\Paired (EH H') ys ((List.range i).map (true,·))) ⟨_,rfl,WF sF hD,bF,.nil⟩ (λi ys σ H' hi=>?_) (λys σ H5=>?_)
  ·rintro⟨v,rfl,s1,hD1,hP⟩
   have hyl:=Paired.length hP
   rw[lA,ZA] at hyl
   walk_at "wp"
   intro p hp
   rw[zB]
   obtain⟨b1,c1⟩:=UF (o:=.tup [V.str (Str.ofString "frame"),V.int (i:Int)]) hp
   have hD2:=b1 _ _ hD1
   generalize upd H' p _=H2 at *
   have kp:∀{c o},H2 c=some o->(∀us,o≠.lst us)->upd H2 D (.lst (ys++[V.ref p])) c=some o:=λhc hn=>by rw[AE (qG hc hD2 (λe=>hn _ e))];exact hc
   refine⟨hD2,by omega,pH (s1.trans b1) hD,?_⟩
   rw[rgn]
   exact dJ (Paired.mapP hP λ_ _ ⟨a,e,q⟩=>⟨a,e,kp (b1 _ _ q) (λ_ z=>nomatch z)⟩) ⟨p,rfl,kp c1 (λ_ z=>nomatch z)⟩
  rintro⟨v,rfl,s1,hD1,hP⟩
  rw[l1,vB] at hP
  refine⟨_,dx,_,s1 _ _ h1,T.Ab,T.Ah,_,qI,z.sq,rfl,_,dx2,_,s1 _ _ g1,T.Ae,T.Ag,_,AH,_,.inl ⟨_,xE.of (s1 _ _ g2),rfl⟩,by omega,by omega,λD2 hD2=>?_⟩
  have s1':=s1
  have hD1':=hD1
  have hP1:=hP
  have ysl:=Paired.length hP
  rw[lA,ZA] at ysl
  refine LK (λi zs σ H'=>∃v,σ=[v]/\vE H5 H'/\H' D2=some (.lst zs)/\Paired (EH H') zs ((List.range i).map (false,·))) ⟨_,rfl,WF sF hD2,bF,.nil⟩ (λi ys σ H' hi=>?_) (λzs σ H6=>?_)
  ·rintro⟨v,rfl,s1,hD1,hP⟩
   have hD:=hD2
   have hyl:=Paired.length hP
   rw[lA,ZA] at hyl
   walk_at "wp"
   intro p hp
   rw[zB]
   obtain⟨b1,c1⟩:=UF (o:=.tup [V.str (Str.ofString "slot"),V.int (i:Int)]) hp
   have hD2:=b1 _ _ hD1
   generalize upd H' p _=H2 at *
   have kp:∀{c o},H2 c=some o->(∀us,o≠.lst us)->upd H2 D2 (.lst (ys++[V.ref p])) c=some o:=λhc hn=>by rw[AE (qG hc hD2 (λe=>hn _ e))];exact hc
   refine⟨hD2,by omega,pH (s1.trans b1) hD,?_⟩
   rw[rgn]
   exact dJ (Paired.mapP hP λ_ _ ⟨a,e,q⟩=>⟨a,e,kp (b1 _ _ q) (λ_ z=>nomatch z)⟩) ⟨p,rfl,kp c1 (λ_ z=>nomatch z)⟩
  ·rintro⟨v,rfl,s6,hD6,hP6⟩
   rw[l2,vB] at hP6
   have zsl:=Paired.length hP6
   rw[lA,ZA] at zsl
   refine⟨ys,s6 _ _ hD1,zs,hD6,by omega,λp hp=>?_⟩
   obtain⟨b7,c7⟩:=UF (o:=.lst (ys++zs)) hp
   refine q _ p _ ((s1.trans s6).trans b7) (cG (s1.trans s6) hp) c7 (VU (Paired.mapP hP λ_ _ h=>h.same (s6.trans b7)) (Paired.mapP hP6 λ_ _ h=>h.same b7))
noncomputable def FG (q:Sh) (ks:List (List Key)):Sh:={q with ks:=q.ks++ks}
noncomputable def ZG (s:St) (f:Bool) (j:Nat) (f':Bool) (j':Nat) (r q:Sh):St:=LF (s.put f' j' (some (FG q (JF r.ks)))) f j
theorem EO {s:St} {f f':Bool} {j j':Nat} {o:Option Sh} (h:¬(f=f'/\j=j')):((s.put f' j' o).rw f)[j]?=(s.rw f)[j]?:=by
 cases f with
 |true=>
  cases f' with
  |true=>show (s.fr.set j' o)[j]?=s.fr[j]?;rw[qA,fA (λe=>h ⟨rfl,e.symm⟩)]
  |false=>rfl
 |false=>
  cases f' with
  |true=>rfl
  |false=>show (s.sr.set j' o)[j]?=s.sr[j]?;rw[qA,fA (λe=>h ⟨rfl,e.symm⟩)]
theorem fM {s:St} {f:Bool} {j:Nat} {o:Option Sh} (h:j < (s.rw f).length):((s.put f j o).rw f)[j]?=some o:=by
 cases f with
 |true=>exact EA h
 |false=>exact EA h
theorem Na {s:St} {f:Bool} {j:Nat} {o:Option Sh} (h:(s.rw f)[j]?=some o):s.put f j o=s:=by
 cases f with
 |true=>
  obtain⟨x1,x2⟩:=aA.mp (show s.fr[j]?=some o from h)
  show {s with fr:=s.fr.set j o}=s
  rw[<-x2,yB]
 |false=>
  obtain⟨x1,x2⟩:=aA.mp (show s.sr[j]?=some o from h)
  show {s with sr:=s.sr.set j o}=s
  rw[<-x2,yB]
noncomputable def Oa (C P S:Addr):Sp:=λvs H Q _=>∃(z:Ss) (s:St) (t t':Addr) (f f':Bool) (j j':Nat) (r q:Sh),vs=[.ref z.p,.ref t,.ref t']/\yE C P S H z s/\Ap s/\Tw s/\H t=some (.tup [.str (BH f),.int (j:Int)])/\H t'=some (.tup [.str (BH f'),.int (j':Int)])/\(s.rw f)[j]?=some (some r)/\(s.rw f')[j']?=some (some q)/\¬(f=f'/\j=j')/\cJ r/\(∀k∈r.ks,k∉q.ks)/\q.ks.length+r.ks.length<=2000/\
 ∀H',yE C P S H' z (ZG s f j f' j' r q)->Ap (ZG s f j f' j' r q)->Tw (ZG s f j f' j' r q)->Kg z q.hd H H'->(∀c,H' c=none->H c=none)->Q .non H'
theorem KN (T:bG K mg A):RE P w K mg base A.Aa "hand_over" 3 ["self","spot","other"] [] (Oa A.Aa A.Ad A.Ac):=by
 have By:=PU (P:=P) (w:=w) (base:=base) T
 have Bc:=N1 (P:=P) (w:=w) (base:=base) T
 have Bz:=OU (P:=P) (w:=w) (base:=base) T
 refine T.B6.have XZ (λvs H Q E z=>?_) ?_
 ·obtain⟨z,s,t,t',f,f',j,j',r,q,rfl,_⟩:=z;rfl
 ·intro f9 cdv A' outer s H vs Q E hr z
  obtain⟨z,s,t,t',f,f',j,j',r,q,rfl,hS,hA,hT,ht,ht',hrj,hqj,hne,hok,hdj,hln,qq⟩:=z
  obtain⟨dx,h1⟩:=hS.me
  have hjl:=(aA.mp hrj).1
  have hjl':=(aA.mp hqj).1
  refine⟨_,(iF (GJ jB rfl (FJ (iI (pE 0) T.Ab By (hr.mono (by decide)) nF (sE (pE 1) zE))) (KG (i:=3) XZ.nd rfl (Or.inl rfl)) (ME (qH (iI (pE 0) T.Ab Bc (hr.mono (by decide)) nF (sE (pE 2) (sE (pE 3) zE))))))
   (ME (qH (iI (pE 0) T.Ab Bz (hr.mono (by decide)) nF (sE (pE 1) zE))))),?_⟩
  walk_at "wp"
  simp only[h1]
  walk_at "wp"
  refine⟨UG (by decide+kernel),z,s,t,f,j,some r,rfl,hS,ht,hrj,(λq9 e=>by cases e;exact hok),λl H1 hl s1 htd=>?_⟩
  obtain⟨us,hu,hP⟩:=htd
  have hul:=Paired.length hP
  rw[DI.length_eq] at hul
  have S1:=hS.same s1
  have hl4:=hS.nf hl
  have hlp:l≠z.p:=λe=>by rw[e,h1] at hl;cases hl
  have hsn:(JF r.ks).Nodup:=DI.nodup_iff.mpr hok.2.1
  have e0:s.put f' j' (some (FG q ((JF r.ks).take 0)))=s:=by
   have:FG q ((JF r.ks).take 0)=q:=by unfold FG;rw[mC,wC]
   rw[this];exact Na hqj
  have hqd:H q.hd=some (.dT (iH q.ks)):=by
   obtain⟨vs,_,x3⟩:=hS.row f'
   obtain⟨_,_,_,_,_,e⟩:=BJ x3 hqj
   exact e
  have kt:∀{G:Hp} {c us},Kg z q.hd H G->H c=some (.tup us)->G c=some (.tup us):=λk hc=>k _ _ hc (λe=>by rw[e,h1] at hc;cases hc) (λe=>by obtain⟨vs,h9⟩:=hS.fours _ e;rw[hc] at h9;cases h9) (λe=>by rw[e,hqd] at hc;cases hc)
  refine⟨l,rfl,⟨_,xE.of hu⟩,rP (K:=K) (xs:=us) (λi σ G=>∃v,σ=[some (.ref z.p),some (.ref t),some (.ref t'),v]/\yE A.Aa A.Ad A.Ac G z (s.put f' j' (some (FG q ((JF r.ks).take i))))/\Ap (s.put f' j' (some (FG q ((JF r.ks).take i))))/\Kg z q.hd H1 G/\∀c,G c=none->H1 c=none) ⟨_,rfl,by rw[e0];exact S1,by rw[e0];exact hA,(λc o h _ _ _=>h),λc h=>h⟩ (λi σ G _ ⟨_,_,_,_,k,_⟩=>xE.of (k _ _ hu hlp hl4 (λe=>by rw[e,hqd] at hl;cases hl))) (λi v σ G hi=>?_) (λσ G=>?_)⟩
  ·rintro⟨v3,rfl,S2,A2,k2,d2⟩
   obtain⟨k9,hk1,a9,rfl,ha9⟩:=BI hP hi
   have hkr:k9∈r.ks:=DI.mem_iff.mp (dA hk1)
   have htk:(JF r.ks).take (i+1)=(JF r.ks).take i++[k9]:=by rw[pB,hk1];rfl
   have hil:=(aA.mp hk1).1
   rw[DI.length_eq] at hil
   obtain⟨dx2,h2⟩:=S2.me
   have kt2:∀{c us},H1 c=some (.tup us)->G c=some (.tup us):=λhc=>k2 _ _ hc (λe=>by rw[e,s1 _ _ h1] at hc;cases hc) (λe=>by obtain⟨vs,h9⟩:=S1.fours _ e;rw[hc] at h9;cases h9) (λe=>by rw[e,s1 _ _ hqd] at hc;cases hc)
   walk_at "wp"
   refine⟨dx2,_,h2,UG (by decide+kernel),z,_,t',a9,f',j',FG q ((JF r.ks).take i),k9,rfl,S2,A2,kt2 (s1 _ _ ht'),fM hjl',kt2 ha9,λz9=>?_,?_,λH' a1 a2 a3 a4=>?_⟩
   ·rcases GA.mp z9 with z9|z9
    ·exact hdj k9 hkr z9
    ·obtain⟨x,hx⟩:=dB.mp z9
     rw[List.getElem?_take] at hx
     split at hx
     ·rename_i hxi
      obtain⟨y1,y2⟩:=aA.mp hx
      obtain⟨y3,y4⟩:=aA.mp hk1
      exact (cB.mp hsn) x i y1 y3 hxi (y2.trans y4.symm)
     ·cases hx
   ·show (q.ks++(JF r.ks).take i).length<=2000
    rw[nA,XA];omega
   ·have e9:{FG q ((JF r.ks).take i) with ks:=(FG q ((JF r.ks).take i)).ks++[k9]}=FG q ((JF r.ks).take (i+1)):=by
     unfold FG;rw[htk,KA]
    rw[za,e9] at a1 a2
    exact⟨a1,a2,λc o hc n1 n2 n3=>a3 c o (k2 c o hc n1 n2 n3) n1 n2 n3,λc hc=>d2 c (a4 c hc)⟩
  ·rintro⟨v3,rfl,S2,A2,k2,d2⟩
   rw[hul,<-(DI (l:=r.ks)).length_eq,mB] at S2 A2
   obtain⟨dx2,h2⟩:=S2.me
   have kt2:∀{c us},H1 c=some (.tup us)->G c=some (.tup us):=λhc=>k2 _ _ hc (λe=>by rw[e,s1 _ _ h1] at hc;cases hc) (λe=>by obtain⟨vs,h9⟩:=S1.fours _ e;rw[hc] at h9;cases h9) (λe=>by rw[e,s1 _ _ hqd] at hc;cases hc)
   have T2:=hT.put (r':=FG q (JF r.ks)) hqj
   have hlens:=S2.lens
   walk_at "wp"
   refine⟨dx2,_,h2,UG (by decide+kernel),z,_,t,f,j,rfl,S2,kt2 (s1 _ _ ht),?_,λk9 hk9=>?_,λH' a1 a2=>?_⟩
   ·have:=(aA.mp ((EO (s:=s) (o:=some (FG q (JF r.ks))) hne).trans hrj)).1
    exact this
   ·have:=(aA.mp (T2.there j k9 hk9)).1
    omega
   ·refine qq H' a1 (K1 A2) (T2.empt ((EO hne).trans hrj)) (λc o hc n1 n2 n3=>a2 c o (k2 c o (s1 _ _ hc) n1 n2 n3) n1 n2) λc hc=>?_
    exact cG s1 (d2 c (a2.was S2 a1 hc))
structure Fs where
 F:List (List Int×(Bool×Nat))
 s:St
 M:List ((Bool×Nat)×(Bool×Nat))
noncomputable def AF (s:St) (p:Bool×Nat):Option Sh:=((s.rw p.1)[p.2]?).getD none
noncomputable def GG (x:Fs) (p:Bool×Nat):Fs:=match AF x.s p with
 |none=>x
 |some r=>if nI r.ks=true then x else match x.F.find? λe=>decide (e.1=r.b) with
  |none=>{x with F:=x.F++[(r.b,p)]}
  |some e=>match AF x.s e.2 with
   |none=>x
   |some q=>{x with s:=ZG x.s p.1 p.2 e.2.1 e.2.2 r q,M:=x.M++[(p,e.2)]}
noncomputable def aF (s:St) (i:Nat):Fs:=((spA s).take i).foldl GG ⟨[],s,[]⟩
noncomputable def OE (s:St):Fs:=aF s (spA s).length
theorem WU {s:St} {i:Nat} {p:Bool×Nat} (h:(spA s)[i]?=some p):aF s (i+1)=GG (aF s i) p:=by
 unfold aF
 rw[pB,h,List.foldl_append]
 rfl
noncomputable def qK (H:Hp) (v:V) (m:(Bool×Nat)×(Bool×Nat)):Prop:=∃a t1 t2,v=.ref a/\H a=some (.tup [.ref t1,.ref t2])/\EH H (.ref t1) m.1/\EH H (.ref t2) m.2
theorem qK.to {H H':Hp} {v:V} {m:(Bool×Nat)×(Bool×Nat)} (h:qK H v m) (k:∀c us,H c=some (.tup us)->H' c=some (.tup us)):qK H' v m:=by
 obtain⟨a,t1,t2,e,h1,⟨b1,e1,q1⟩,⟨b2,e2,q2⟩⟩:=h
 exact⟨a,t1,t2,e,k _ _ h1,⟨b1,e1,k _ _ q1⟩,⟨b2,e2,k _ _ q2⟩⟩
noncomputable def sI (b:List Int):List Key:=b.map Sum.inl
theorem R1:∀{a b:List Int},sI a=sI b->a=b
 |[],[],_=>rfl
 |[],_::_,h=>by cases h
 |_::_,[],h=>by cases h
 |x::a,y::b,h=>by
  unfold sI at h
  rw[CA,CA] at h
  injection h with h1 h2
  rw[mD h1,R1 (a:=a) (b:=b) h2]
noncomputable def T1 (H:Hp) (kv:List Key×V) (e:List Int×(Bool×Nat)):Prop:=kv.1=sI e.1/\EH H kv.2 e.2
theorem LN {H:Hp} {kvs:List (List Key×V)} {F:List (List Int×(Bool×Nat))} (h:Paired (T1 H) kvs F) {b:List Int}:match F.find? (λe=>decide (e.1=b)) with|none=>HF kvs (sI b)=none|some e=>∃v,HF kvs (sI b)=some v/\EH H v e.2/\e.1=b:=by
 induction h with
 |nil=>rfl
 |@cons kv e ks es r t ih=>
  obtain⟨r1,r2⟩:=r
  obtain⟨k0,v0⟩:=kv
  have r1:k0=sI e.1:=r1
  by_cases c:e.1=b
  ·rw[XB,AA c]
   exact⟨v0,FS (by rw[r1,c]),r2,c⟩
  ·rw[XB,vA c]
   have hv:HF ((k0,v0)::ks) (sI b)=HF ks (sI b):=bR (λz=>c (R1 (r1.symm.trans z)))
   show match es.find? (λe=>decide (e.1=b)) with|none=>HF ((k0,v0)::ks) (sI b)=none|some e=>∃v,HF ((k0,v0)::ks) (sI b)=some v/\EH H v e.2/\e.1=b
   rw[hv]
   exact ih
structure Fi (s0:St) (i:Nat) (x:Fs):Prop where
 fr:x.s.fr.length=s0.fr.length
 sr:x.s.sr.length=s0.sr.length
 first:∀e∈x.F,(∃q,AF x.s e.2=some q/\q.b=e.1/\nI q.ks=false)/\∃a < i,(spA s0)[a]?=some e.2
 nd:((WE x.s).flatMap Sh.ks).Nodup
 tri:∀k∈(WE x.s).flatMap Sh.ks,uG k
 few:∀b,(((WE x.s).filter λr=>decide (r.b=b)).flatMap Sh.ks).length < 640
 fl:x.F.length<=i
 ml:x.M.length<=i
theorem XU {s:St} {f:Bool} {j:Nat} {r r':Sh} (h:(s.rw f)[j]?=some (some r)):(WE s).Perm (r::WE (s.put f j none))/\(WE (s.put f j (some r'))).Perm (r'::WE (s.put f j none)):=by
 cases f with
 |true=>
  have h:s.fr[j]?=some (some r):=h
  unfold WE
  show (als (s.fr++s.sr)).Perm (r::als (s.fr.set j none++s.sr))/\(als (s.fr.set j (some r')++s.sr)).Perm (r'::als (s.fr.set j none++s.sr))
  rw[WH,WH,WH]
  exact⟨(DN h).append_right _,(NU h).append_right _⟩
 |false=>
  have h:s.sr[j]?=some (some r):=h
  unfold WE
  show (als (s.fr++s.sr)).Perm (r::als (s.fr++s.sr.set j none))/\(als (s.fr++s.sr.set j (some r'))).Perm (r'::als (s.fr++s.sr.set j none))
  rw[WH,WH,WH]
  exact⟨((DN h).append_left _).trans YA,((NU h).append_left _).trans YA⟩
theorem Pa {s:St} {f:Bool} {j:Nat}:WE (LF s f j)=WE (s.put f j none):=by
 cases f with
 |true=>show WE (untie (s.put true j none) j)=_;unfold WE;rw[oJ.1,oJ.2.1]
 |false=>rfl
theorem YU {s:St} {f f':Bool} {j j':Nat} {r q:Sh} (hr:(s.rw f)[j]?=some (some r)) (hq:(s.rw f')[j']?=some (some q)) (hne:¬(f=f'/\j=j')):(FG q (JF r.ks)::WE s).Perm (q::r::WE (ZG s f j f' j' r q)):=by
 obtain⟨p1,p2⟩:=XU (r':=FG q (JF r.ks)) hq
 obtain⟨p3,_⟩:=XU (r':=r) ((EO (o:=some (FG q (JF r.ks))) hne).trans hr)
 unfold ZG
 rw[Pa]
 refine (List.Perm.cons _ p1).trans ((List.Perm.swap ..).trans (List.Perm.cons q ?_))
 exact p2.symm.trans p3
theorem Qa {s:St} {f:Bool} {j:Nat} {p:Bool×Nat} (h:¬(p.1=f/\p.2=j)):AF (LF s f j) p=AF s p:=by
 unfold AF
 have e:(LF s f j).rw p.1=(s.put f j none).rw p.1:=by
  cases f with
  |true=>show (untie (s.put true j none) j).rw p.1=_;cases p.1 with
   |true=>exact oJ.1
   |false=>exact oJ.2.1
  |false=>rfl
 rw[e,EO h]
theorem BQ {s:St} {f f':Bool} {j j':Nat} {r q:Sh} {p:Bool×Nat} (hq:(s.rw f')[j']?=some (some q)) (h1:¬(p.1=f/\p.2=j)):AF (ZG s f j f' j' r q) p=if p.1=f'/\p.2=j' then some (FG q (JF r.ks)) else AF s p:=by
 unfold ZG
 rw[Qa h1]
 unfold AF
 split
 ·rename_i e
  obtain⟨e1,e2⟩:=e
  rw[e1,e2,fM (aA.mp hq).1];rfl
 ·rename_i e
  rw[EO e]
theorem MN {s:St} {f f':Bool} {j j':Nat} {r q:Sh}:(ZG s f j f' j' r q).fr.length=s.fr.length/\(ZG s f j f' j' r q).sr.length=s.sr.length:=by
 have e:∀(u:St) (b:Bool) (k:Nat) (o:Option Sh),(u.put b k o).fr.length=u.fr.length/\(u.put b k o).sr.length=u.sr.length:=λu b k o=>by
  cases b with
  |true=>exact⟨BA,rfl⟩
  |false=>exact⟨rfl,BA⟩
 unfold ZG
 cases f with
 |true=>
  show (untie ((s.put f' j' (some (FG q (JF r.ks)))).put true j none) j).fr.length=_/\(untie ((s.put f' j' (some (FG q (JF r.ks)))).put true j none) j).sr.length=_
  rw[oJ.1,oJ.2.1,(e _ _ _ _).1,(e _ _ _ _).2,(e _ _ _ _).1,(e _ _ _ _).2]
  exact⟨rfl,rfl⟩
 |false=>
  show ((s.put f' j' (some (FG q (JF r.ks)))).put false j none).fr.length=_/\((s.put f' j' (some (FG q (JF r.ks)))).put false j none).sr.length=_
  rw[(e _ _ _ _).1,(e _ _ _ _).2,(e _ _ _ _).1,(e _ _ _ _).2]
  exact⟨rfl,rfl⟩
theorem eJ {s:St} {p:Bool×Nat} {r:Sh} (h:AF s p=some r):(s.rw p.1)[p.2]?=some (some r):=by
 unfold AF at h
 cases e:(s.rw p.1)[p.2]? with
 |none=>rw[e] at h;cases h
 |some o=>rw[e] at h;have h:o=some r:=h;rw[h]
theorem eS {s:St}:(spA s).Nodup:=by
 unfold spA
 rw[fB]
 refine⟨?_,?_,λx hx y hy e=>?_⟩
 ·exact WD.mpr (List.nodup_range.imp λh e=>h (Prod.mk.inj e).2)
 ·exact WD.mpr (List.nodup_range.imp λh e=>h (Prod.mk.inj e).2)
 ·obtain⟨a,_,rfl⟩:=DB.mp hx
  obtain⟨b,_,rfl⟩:=DB.mp hy
  cases (Prod.mk.inj e).1
theorem Fi.next {s0:St} {i:Nat} {x:Fs} {p:Bool×Nat} (h:Fi s0 i x) (hp:(spA s0)[i]?=some p):Fi s0 (i+1) (GG x p):=by
 have more:Fi s0 (i+1) x:=⟨h.fr,h.sr,λe he=>let ⟨a,b,c,d⟩:=h.first e he;⟨a,b,by omega,d⟩,h.nd,h.tri,h.few,by have:=h.fl;omega,by have:=h.ml;omega⟩
 have apart:∀e∈x.F,¬(e.2.1=p.1/\e.2.2=p.2):=λe he z=>by
  obtain⟨_,a,ha,e9⟩:=h.first e he
  have ep:e.2=p:=eE z.1 z.2
  rw[ep] at e9
  obtain⟨y1,y2⟩:=aA.mp e9
  obtain⟨y3,y4⟩:=aA.mp hp
  exact (cB.mp (eS (s:=s0))) a i y1 y3 ha (y2.trans y4.symm)
 unfold GG
 cases e1:AF x.s p with
 |none=>exact more
 |some r=>
  show Fi s0 (i+1) (if nI r.ks=true then x else _)
  split
  ·exact more
  ·rename_i hb
   cases e2:x.F.find? λe=>decide (e.1=r.b) with
   |none=>
    refine⟨h.fr,h.sr,λe he=>?_,h.nd,h.tri,h.few,by have:=h.fl;show (x.F++[(r.b,p)]).length<=i+1;rw[nA];show x.F.length+1<=i+1;omega,by have:=h.ml;show x.M.length<=i+1;omega⟩
    rcases GA.mp he with he|he
    ·exact more.first e he
    ·rw[kA.mp he]
     exact⟨⟨r,e1,rfl,by cases hx:nI r.ks with|true=>exact absurd hx hb|false=>rfl⟩,i,by omega,hp⟩
   |some e=>
    have heF:=PB e2
    have heb:e.1=r.b:=by have:=List.find?_some e2;simpa using this
    obtain⟨⟨q,hq,hqb,hqn⟩,_⟩:=h.first e heF
    show Fi s0 (i+1) (match AF x.s e.2 with|none=>x|some q=>{x with s:=ZG x.s p.1 p.2 e.2.1 e.2.2 r q,M:=x.M++[(p,e.2)]})
    rw[hq]
    have hne:¬(p.1=e.2.1/\p.2=e.2.2):=λz=>apart e heF ⟨z.1.symm,z.2.symm⟩
    have pm:=YU (eJ e1) (eJ hq) hne
    have hrb:nI r.ks=false:=by cases hx:nI r.ks with|true=>exact absurd hx hb|false=>rfl
    have pmk:((WE x.s).flatMap Sh.ks).Perm ((WE (ZG x.s p.1 p.2 e.2.1 e.2.2 r q)).flatMap Sh.ks):=by
     have p9:=pm.flatMap_right Sh.ks
     rw[SA,SA,SA] at p9
     have p9:((q.ks++JF r.ks)++(WE x.s).flatMap Sh.ks).Perm (q.ks++(r.ks++(WE (ZG x.s p.1 p.2 e.2.1 e.2.2 r q)).flatMap Sh.ks)):=p9
     rw[KA] at p9
     have p8:=(uC _).mp p9
     exact (uC _).mp ((DI.symm.append_right _).trans p8)
    obtain⟨l1,l2⟩:=MN (s:=x.s) (f:=p.1) (j:=p.2) (f':=e.2.1) (j':=e.2.2) (r:=r) (q:=q)
    refine⟨l1.trans h.fr,l2.trans h.sr,λe' he'=>?_,pmk.nodup_iff.mp h.nd,λk hk=>h.tri k (pmk.mem_iff.mpr hk),λb=>?_,(by have:=h.fl;show x.F.length<=i+1;omega),by have:=h.ml;show (x.M++[(p,e.2)]).length<=i+1;rw[nA];show x.M.length+1<=i+1;omega⟩
    ·obtain⟨⟨q',x1,x2,x3⟩,a,x4,x5⟩:=h.first e' he'
     refine⟨?_,a,by omega,x5⟩
     show ∃q0,AF (ZG x.s p.1 p.2 e.2.1 e.2.2 r q) e'.2=some q0/\_
     rw[BQ (eJ hq) (apart e' he')]
     split
     ·rename_i ee
      have:e'.2=e.2:=eE ee.1 ee.2
      rw[this,hq] at x1
      obtain rfl:=cA x1
      refine⟨_,rfl,x2,?_⟩
      show (q.ks++JF r.ks).any pK=false
      rw[List.any_append]
      have y1:q.ks.any pK=false:=hqn
      have y2:(JF r.ks).any pK=false:=by
       rw[VD]
       intro k hk
       have:=(VD.mp (show r.ks.any pK=false from hrb)) k (DI.mem_iff.mp hk)
       exact this
      rw[y1,y2];rfl
     ·exact⟨q',x1,x2,x3⟩
    ·have p9:=(pm.filter λr=>decide (r.b=b)).flatMap_right Sh.ks
     have p9:=p9.length_eq
     have fw:=h.few b
     have eb:(FG q (JF r.ks)).b=q.b:=rfl
     by_cases c:r.b=b
     ·have cq:q.b=b:=by rw[hqb,heb];exact c
      have k1:∀(y:Sh) (l:List Sh),y.b=b->(y::l).filter (λr=>decide (r.b=b))=y::l.filter (λr=>decide (r.b=b)):=λy l hy=>List.filter_cons_of_pos (p:=λr:Sh=>decide (r.b=b)) (AA hy)
      rw[k1 _ _ (eb.trans cq),k1 _ _ cq,k1 _ _ c,SA,SA,SA,nA,nA,nA] at p9
      have l9:(FG q (JF r.ks)).ks.length=q.ks.length+r.ks.length:=by show (q.ks++JF r.ks).length=_;rw[nA,DI.length_eq]
      rw[l9] at p9
      show (((WE (ZG x.s p.1 p.2 e.2.1 e.2.2 r q)).filter λr=>decide (r.b=b)).flatMap Sh.ks).length < 640
      omega
     ·have cq:¬(q.b=b):=by rw[hqb,heb];exact c
      have k1:∀(y:Sh) (l:List Sh),¬(y.b=b)->(y::l).filter (λr=>decide (r.b=b))=l.filter (λr=>decide (r.b=b)):=λy l hy=>List.filter_cons_of_neg (p:=λr:Sh=>decide (r.b=b)) (by simpa using hy)
      rw[k1 _ _ (λz=>cq (eb.symm.trans z)),k1 _ _ cq,k1 _ _ c] at p9
      show (((WE (ZG x.s p.1 p.2 e.2.1 e.2.2 r q)).filter λr=>decide (r.b=b)).flatMap Sh.ks).length < 640
      omega
theorem yE.bxl {C P S:Addr} {H:Hp} {z:Ss} {s:St} (h:yE C P S H z s) {r:Sh} (hr:some r∈s.fr\/some r∈s.sr):H r.bx=some (.lst (r.b.map V.int)):=by
 obtain⟨_,_,_,_,f3,_⟩:=h.fr
 obtain⟨_,_,_,_,g3,_⟩:=h.sl
 rcases hr with hr|hr
 ·obtain⟨i,hi⟩:=dB.mp hr
  obtain⟨_,_,_,_,e,_⟩:=BJ f3 hi
  exact e
 ·obtain⟨i,hi⟩:=dB.mp hr
  obtain⟨_,_,_,_,e,_⟩:=BJ g3 hi
  exact e
theorem yE.lup {C P S:Addr} {G:Hp} {z:Ss} {s:St} {g:Addr} {us:List V} {o:HO} (h:yE C P S G z s) (hl:G g=some (.lst us)) (h4:g∉z.four) (hb:∀r∈WE s,r.bx≠g):yE C P S (upd G g o) z s:=by
 obtain⟨dx,h1⟩:=h.me
 obtain⟨dx1,vs1,f1,f2,f3,f4,f5⟩:=id h.fr
 obtain⟨dx2,vs2,g1,g2,g3,g4,g5⟩:=id h.sl
 have ni:∀{c D d fs},G c=some (.ins D d fs)->upd G g o c=some (.ins D d fs):=λhc=>by rw[AE (qG hc hl (λz=>nomatch z))];exact hc
 have nf:∀{c u},G c=some u->c∈z.four->upd G g o c=some u:=λhc hn=>by rw[AE (λe=>h4 (by rw[<-e];exact hn))];exact hc
 exact⟨⟨dx,ni h1⟩,⟨dx1,vs1,ni f1,nf f2 (IJ (f:=true)),xK hl f3 (λr hr=>hb r (yH.mpr (.inl hr))),nf f4 (TL (f:=true)),f5⟩,⟨dx2,vs2,ni g1,nf g2 (IJ (f:=false)),xK hl g3 (λr hr=>hb r (yH.mpr (.inr hr))),nf g4 (TL (f:=false)),g5⟩,h.n4,h.bx,h.len,h.hh⟩
theorem Ra {f f':Bool} (h:BH f=BH f'):f=f':=by
 cases f<;>cases f'<;>first|rfl|exact absurd h (by decide+kernel)
noncomputable def FO (p:Bool×Nat):List Key:=[.inr (BH p.1),.inl (p.2:Int)]
theorem Sa {p q:Bool×Nat} (h:FO p=FO q):p=q:=by
 injection h with h1 h2
 injection h2 with h2 _
 have e1:=Ra (XD h1)
 have e2:(p.2:Int)=q.2:=mD h2
 exact eE e1 (by omega)
theorem NN {S d:Addr} {G:Hp} {kvs:List (List Key×V)} {o:HO} (hl:G d=some (.dT kvs)) {vs:List V} {rows:List (Option Sh)} (h:lG S G vs rows) (hb:∀r,some r∈rows->r.hd≠d):lG S (upd G d o) vs rows:=bS hl h hb
theorem yE.dup {C P S:Addr} {G:Hp} {z:Ss} {s:St} {d:Addr} {kvs:List (List Key×V)} {o:HO} (h:yE C P S G z s) (hv:G d=some (.dT kvs)) (hd:∀r∈WE s,r.hd≠d):yE C P S (upd G d o) z s:=by
 have np:∀{c u},G c=some u->(∀us,u≠.dT us)->upd G d o c=some u:=λ{c u} hc ho=>by rw[AE (λz=>by rw[z,hv] at hc;exact ho _ (cA hc).symm)];exact hc
 obtain⟨dx,h1⟩:=h.me
 obtain⟨dx1,vs1,f1,f2,f3,f4,f5⟩:=id h.fr
 obtain⟨dx2,vs2,g1,g2,g3,g4,g5⟩:=id h.sl
 have kp:∀{v:V} {r:Option Sh},(∀q,r=some q->q.hd≠d)->lF S G v r->lF S (upd G d o) v r:=λ{v r} hb hv=>by
  cases r with
  |none=>exact hv
  |some r=>
   obtain⟨e,⟨x,x1⟩,x2,x3⟩:=hv
   exact⟨e,⟨x,np x1 λ_ z=>nomatch z⟩,np x2 (λ_ z=>nomatch z),by rw[AE (hb r rfl)];exact x3⟩
 have ly:∀{vs:List V} {rows:List (Option Sh)},lG S G vs rows->(∀r,some r∈rows->r.hd≠d)->lG S (upd G d o) vs rows:=λ{vs rows} hl hb=>NN hv hl hb
 exact⟨⟨dx,np h1 λ_ z=>nomatch z⟩,⟨dx1,vs1,np f1 (λ_ z=>nomatch z),np f2 (λ_ z=>nomatch z),ly f3 (λr hr=>hd r (yH.mpr (.inl hr))),np f4 (λ_ z=>nomatch z),f5⟩,⟨dx2,vs2,np g1 (λ_ z=>nomatch z),np g2 (λ_ z=>nomatch z),ly g3 (λr hr=>hd r (yH.mpr (.inr hr))),np g4 (λ_ z=>nomatch z),g5⟩,h.n4,h.bx,h.len,h.hh⟩
structure U1 (A:mI) (H:Hp) (z:Ss) (s:St) (d g l:Addr) (us:List V) (i:Nat) (G:Hp):Prop where
 ss:yE A.Aa A.Ad A.Ac G z (aF s i).s
 ap:Ap (aF s i).s
 tw:Tw (aF s i).s
 hd:∀r∈WE (aF s i).s,r.hd≠d/\r.bx≠g
 dd:∃kvs,G d=some (.dT kvs)/\Paired (T1 G) kvs (aF s i).F
 gg:∃ys,G g=some (.lst ys)/\Paired (qK G) ys (aF s i).M
 ll:G l=some (.lst us)/\Paired (EH G) us (spA s)
 fi:Fi s i (aF s i)
 kd:Kd z H G
 dm:∀c,G c=none->H c=none
noncomputable def V1 (A:mI):Sp:=λvs H Q _=>∃(z:Ss) (s:St),vs=[.ref z.p]/\yE A.Aa A.Ad A.Ac H z s/\Ap s/\Tw s/\Fi s 0 ⟨[],s,[]⟩/\
 ∀H' g ys,yE A.Aa A.Ad A.Ac H' z (OE s).s->Ap (OE s).s->Tw (OE s).s->Fi s (spA s).length (OE s)->H g=none->H' g=some (.lst ys)->Paired (qK H') ys (OE s).M->Kd z H H'->(∀c,H' c=none->H c=none)->Q (.ref g) H'
theorem ON (T:bG K mg A):RE P w K mg base A.Aa "fold" 4 ["self"] [] (V1 A):=by
 have Ck:=AQ (P:=P) (w:=w) (base:=base) T
 have Am:=RK (P:=P) (w:=w) (base:=base) T
 have Da:=zQ (P:=P) (w:=w) (base:=base) T
 have Cl:=KN (P:=P) (w:=w) (base:=base) T
 refine T.D9.have vO (λvs H Q E z=>?_) ?_
 ·obtain⟨z,s,rfl,_⟩:=z;rfl
 ·intro f cdv A' outer s H vs Q E hr z
  obtain⟨z,s,rfl,hS,hA,hT,hF,q⟩:=z
  obtain⟨dx,h1⟩:=hS.me
  have hz:=PySem.sizeLine_eq
  refine⟨_,(iF (xF (i:=1) vO.nd rfl (Or.inl rfl) Q5)
   (iF (xF (i:=2) vO.nd rfl (Or.inl rfl) (lH zE))
   (iF (GJ jB rfl (FJ (KH (pE 0) T.Ab Ck (hr.mono (by decide)) nF)) (KG (i:=3) vO.nd rfl (Or.inl rfl)) (zF (xF (i:=4) vO.nd rfl (Or.inl rfl) (iI (pE 0) T.Ab Am (hr.mono (by decide)) nF (sE (pE 3) zE)))
   (ME (VF (PW.pt (hJ (BF cI (pE 4) wF (uE _)) (gJ (uK (pI (KH (pE 4) T.An Da (hr.mono (by decide)) nF)))))) (iF (xF (i:=5) vO.nd rfl (Or.inl rfl) (n8 (KS hr) (pE 1) (kO K5 rfl T.Dq lD (sE (YE (pE 4) rfl) zE)) (pE 3) ⟨rfl,rfl,rfl,rfl⟩))
   (ME (VF (BF (KM (n:=4) (pO hr)) (pE 5) (pE 3) (uE _)) (iF (qH (iI (pE 0) T.Ab Cl (hr.mono (by decide)) nF (sE (pE 3) (sE (pE 5) zE))))
   (ME (qH (PJ PySem.F.plainAttrs_list PySem.F.slot_list_append PySem.F.type_list_append QJ (pE 2) (sE (mH (sE (pE 3) (sE (pE 5) zE))) zE))))) mG))) mG))))
   (ME (KF (pE 2)))))),?_⟩
  unfold gK tP
  walk_at "wp"
  intro d hd g hg
  obtain⟨b1,c1⟩:=UF (o:=.dT []) hd
  obtain⟨b2,c2⟩:=UF (o:=.lst []) hg
  have b12:=b1.trans b2
  have c12:=b2 _ _ c1
  have hg0:=cG b1 hg
  generalize upd (upd H d (.dT [])) g (.lst [])=H2 at *
  refine⟨dx,_,b12 _ _ h1,UG (by decide+kernel),z,s,rfl,hS.same b12,λH3 l us s3 hl hl3 hP3=>?_⟩
  have s03:=b12.trans s3
  have hdH:∀r∈WE s,r.hd≠d:=λr hr e=>by
   have ha:r.hd∈GI s:=by
    unfold GI
    exact nJ.mpr ⟨r,MU.mp hr,rfl⟩
   obtain⟨kvs,h9⟩:=hS.hd _ ha
   rw[e,hd] at h9;cases h9
  have hgd:g≠d:=λe=>by rw[e,c1] at hg;cases hg
  have hgl:l≠g:=λe=>by rw[e,c2] at hl;cases hl
  have hl0:=cG b12 hl
  refine⟨l,rfl,⟨_,xE.of hl3⟩,rP (K:=K) (xs:=us) (λi σ G=>∃v3 v4 v5,σ=[some (.ref z.p),some (.ref d),some (.ref g),v3,v4,v5]/\U1 A H z s d g l us i G) ⟨_,_,_,rfl,⟨hS.same s03,hA,hT,(λr hr=>⟨hdH r hr,λe=>by have:=hS.bxl (yH.mp hr);rw[e,hg0] at this;cases this⟩),⟨[],s3 _ _ c12,.nil⟩,⟨[],s3 _ _ c2,.nil⟩,⟨hl3,hP3⟩,hF,Kd.of s03,λc hc=>cG s03 hc⟩⟩ (λi σ G _ ⟨_,_,_,_,h⟩=>xE.of h.ll.1) (λi v σ G hi=>?_) (λσ G=>?_)⟩
  ·rintro⟨v3,v4,v5,rfl,hI⟩
   obtain⟨hGl,hPl⟩:=hI.ll
   obtain⟨p,hp,t,rfl,ht⟩:=BI hPl hi
   obtain⟨kvs,hGd,hPd⟩:=hI.dd
   obtain⟨ys,hGg,hPg⟩:=hI.gg
   obtain⟨dx2,h2⟩:=hI.ss.me
   have esucc:=WU hp
   have fnx:=hI.fi.next hp
   have iss:=hI.ss
   have iap:=hI.ap
   have itw:=hI.tw
   have ihd:=hI.hd
   have ifi:=hI.fi
   have ikd:=hI.kd
   have idm:=hI.dm
   clear hI
   generalize aF s i=x at *
   have hpl:p.2 < (x.s.rw p.1).length:=by
    have:=dA hp
    unfold spA at this
    rcases GA.mp this with h9|h9
    ·obtain⟨y,hy,rfl⟩:=DB.mp h9
     have:=DC.mp hy
     show y < x.s.fr.length
     rw[ifi.fr];exact this
    ·obtain⟨y,hy,rfl⟩:=DB.mp h9
     have:=DC.mp hy
     show y < x.s.sr.length
     rw[ifi.sr];exact this
   obtain⟨o,ho⟩:∃o,(x.s.rw p.1)[p.2]?=some o:=⟨_,bA hpl⟩
   have hlk:AF x.s p=o:=by unfold AF;rw[ho];rfl
   walk_at "wp"
   refine⟨λσ G'=>∃v2,σ=[some (.ref z.p),some (.ref d),some (.ref g),some (.ref t),some v2,v5]/\G'=G/\lF A.Ac G v2 o,?_,λσ6 G6=>?_⟩
   ·walk_at "wp"
    exact⟨dx2,_,h2,UG (by decide+kernel),z,x.s,t,p.1,p.2,o,rfl,iss,ht,ho,λv2 hv2=>⟨rfl,hv2⟩⟩
   rintro⟨v2,rfl,rfl,hv2⟩
   have stay:aF s (i+1)=x->∀G9,vE G6 G9->U1 A H z s d g l us (i+1) G9:=λe G9 s9=>by
    have fn:=fnx
    rw[<-esucc,e] at fn
    refine⟨by rw[e];exact iss.same s9,by rw[e];exact iap,by rw[e];exact itw,by rw[e];exact ihd,⟨kvs,s9 _ _ hGd,by rw[e];exact Paired.mapP hPd λ_ _ ⟨e1,e2⟩=>⟨e1,e2.same s9⟩⟩,⟨ys,s9 _ _ hGg,by rw[e];exact Paired.mapP hPg λ_ _ h=>h.to λc us hc=>s9 _ _ hc⟩,⟨s9 _ _ hGl,Paired.mapP hPl λ_ _ h=>h.same s9⟩,by rw[e];exact fn,ikd.trans (Kd.of s9),λc hc=>idm c (cG s9 hc)⟩
   have fn:Fi s (i+1) (aF s (i+1)):=by rw[esucc];exact fnx
   unfold GG at esucc
   rw[hlk] at esucc
   walk_at "wp"
   cases o with
   |none=>
    obtain rfl:v2=.non:=hv2
    exact KJ (by rw[AA rfl];rfl) (stay esucc G6 sF)
   |some r=>
    obtain⟨rfl,⟨dxr,g1⟩,g2,g3⟩:=id hv2
    have hrm:r∈WE x.s:=by
     rw[yH]
     cases e9:p.1 with
     |true=>rw[e9] at ho;exact .inl (dA ho)
     |false=>rw[e9] at ho;exact .inr (dA ho)
    have hkm:∀k∈r.ks,k∈(WE x.s).flatMap Sh.ks:=λk hk=>cE.mpr ⟨r,hrm,hk⟩
    have hlen:r.ks.length < 640:=by
     have:=ifi.few r.b
     have h9:r.ks.length<=(((WE x.s).filter λy=>decide (y.b=r.b)).flatMap Sh.ks).length:=by
      have hm:r∈(WE x.s).filter λy=>decide (y.b=r.b):=fD.mpr ⟨hrm,AA rfl⟩
      obtain⟨l1,l2,e9⟩:=jC hm
      rw[e9,ZB,SA,nA,nA]
      omega
     omega
    have esucc:aF s (i+1)=if nI r.ks=true then x else match x.F.find? λe=>decide (e.1=r.b) with
     |none=>{x with F:=x.F++[(r.b,p)]}
     |some e=>match AF x.s e.2 with
      |none=>x
      |some q=>{x with s:=ZG x.s p.1 p.2 e.2.1 e.2.2 r q,M:=x.M++[(p,e.2)]}:=esucc
    refine EI (by rw[vA (λz=>nomatch z)];rfl) ⟨r.sh,rfl,dxr,_,g1,RL (by decide+kernel),_,r,rfl,hv2,λk hk=>ifi.tri k (hkm k hk),by omega,λH7 s7=>⟨_,rfl,?_⟩⟩
    cases hb:nI r.ks with
    |true=>
     rw[hb,iA rfl] at esucc
     exact KJ rfl (stay esucc H7 s7)
    |false=>
     rw[hb,fA (by decide)] at esucc
     have hGd7:=s7 _ _ hGd
     have etup:r.b.map V.int=(sI r.b).map kV:=by unfold sI;rw[List.map_map];rfl
     refine EI rfl ⟨.inr ⟨_,.inl hGd7⟩,r.sh,rfl,_,dxr,_,s7 _ _ g1,T.An,T.Au,_,NR,r.bx,rfl,_,.inl ⟨xE.of (s7 _ _ g2),λtp htp=>?_⟩⟩
     obtain⟨b8,c8⟩:=UF (o:=.tup (r.b.map V.int)) htp
     have s8:=s7.trans b8
     have hGd8:=b8 _ _ hGd7
     have hkl:=Paired.length hPd
     have hil:=(aA.mp hp).1
     have hsl:(spA s).length<=1280:=by
      unfold spA
      rw[nA,lA,lA,ZA,ZA]
      have:=hS.len;omega
     have hfl:=ifi.fl
     have fd:=LN hPd (b:=r.b)
     have ht8:=s8 _ _ ht
     have hgz:g≠z.p:=λe=>by rw[e,h1] at hg0;cases hg0
     have hg4:g∉z.four:=hS.nf hg0
     have hlz:l≠z.p:=λe=>by rw[e,h1] at hl0;cases hl0
     have hl4:l∉z.four:=hS.nf hl0
     refine⟨kvs,hGd8,sI r.b,by rw[etup],by omega,λv hv=>?_,λhv=>?_⟩
     ·cases e2:x.F.find? λe=>decide (e.1=r.b) with
      |none=>rw[e2] at fd;have fd:HF kvs (sI r.b)=none:=fd;rw[hv] at fd;cases fd
      |some e=>
       rw[e2] at fd esucc
       obtain⟨v',fd1,⟨t',rfl,ht'⟩,fd3⟩:=fd
       rw[hv] at fd1
       obtain rfl:=cA fd1
       have heF:=PB e2
       obtain⟨⟨q0,hq0,hqb,hqn⟩,a9,ha9,e9⟩:=ifi.first e heF
       have hne:¬(p.1=e.2.1/\p.2=e.2.2):=λz=>by
        have ep:e.2=p:=eE z.1.symm z.2.symm
        rw[ep] at e9
        obtain⟨y1,y2⟩:=aA.mp e9
        obtain⟨y3,y4⟩:=aA.mp hp
        exact (cB.mp (eS (s:=s))) a9 i y1 y3 ha9 (y2.trans y4.symm)
       have esucc:aF s (i+1)={x with s:=ZG x.s p.1 p.2 e.2.1 e.2.2 r q0,M:=x.M++[(p,e.2)]}:=by
        rw[esucc]
        show (match AF x.s e.2 with|none=>x|some q=>_)=_
        rw[hq0]
       have ht8':=s8 _ _ ht'
       refine⟨true,zH (FO e.2),iR ht8',zH (FO p),iR ht8,iT _ _,by rw[jT];omega,?_⟩
       rw[fT,vA (λz=>hne (by have:=Sa z;rw[this];exact⟨rfl,rfl⟩))]
       have hqm:q0∈WE x.s:=by
        rw[yH]
        have:=eJ hq0
        cases e9:e.2.1 with
        |true=>rw[e9] at this;exact .inl (dA this)
        |false=>rw[e9] at this;exact .inr (dA this)
       have pm:=YU (r:=r) ho (eJ hq0) hne
       have hal:∀y∈WE (ZG x.s p.1 p.2 e.2.1 e.2.2 r q0),∃y0∈WE x.s,y.hd=y0.hd/\y.bx=y0.bx:=λy hy=>by
        rcases xA.mp (pm.mem_iff.mpr (jA _ (jA _ hy))) with e9|e9
        ·exact⟨q0,hqm,by rw[e9];rfl,by rw[e9];rfl⟩
        ·exact⟨y,e9,rfl,rfl⟩
       have hq1:q0∈WE (x.s.put p.1 p.2 none):=by
        have h9:=(EO (s:=x.s) (o:=none) (f:=e.2.1) (j:=e.2.2) (f':=p.1) (j':=p.2) (λz=>hne ⟨z.1.symm,z.2.symm⟩)).trans (eJ hq0)
        rw[yH]
        cases e8:e.2.1 with
        |true=>rw[e8] at h9;exact .inl (dA h9)
        |false=>rw[e8] at h9;exact .inr (dA h9)
       have few1:∀y∈WE x.s,y.ks.length < 640:=λy hy=>by
        have:=ifi.few y.b
        have h9:y.ks.length<=(((WE x.s).filter λu=>decide (u.b=y.b)).flatMap Sh.ks).length:=by
         have hm:y∈(WE x.s).filter λu=>decide (u.b=y.b):=fD.mpr ⟨hy,AA rfl⟩
         obtain⟨l1,l2,e9⟩:=jC hm
         rw[e9,ZB,SA,nA,nA]
         omega
        omega
       have two:(r.ks++q0.ks).Nodup/\r.ks.length+q0.ks.length < 1280:=by
        have p1:=((XU (r':=r) ho).1.flatMap_right Sh.ks).nodup_iff.mp ifi.nd
        rw[SA] at p1
        obtain⟨m1,m2,m3⟩:=fB.mp p1
        obtain⟨l1,l2,e9⟩:=jC hq1
        rw[e9,ZB,SA] at m2 m3
        obtain⟨_,m4,_⟩:=fB.mp m2
        obtain⟨m5,_,_⟩:=fB.mp m4
        refine⟨fB.mpr ⟨m1,m5,λa ha b hb=>m3 a ha b (IA _ (wB _ hb))⟩,?_⟩
        have:=few1 q0 hqm
        omega
       refine EI rfl ⟨dx2,_,s8 _ _ h2,UG (by decide+kernel),z,x.s,t,t',p.1,e.2.1,p.2,e.2.2,r,q0,rfl,iss.same s8,iap,itw,ht8,ht8',ho,eJ hq0,hne,⟨hlen,(fB.mp two.1).1,λk hk=>ifi.tri k (hkm k hk)⟩,(λk hk hk2=>(fB.mp two.1).2.2 k hk k hk2 rfl),by omega,λH9 a1 a2 a3 a4 a5=>?_⟩
       have hqd:∃w9,upd H7 tp (.tup (r.b.map V.int)) q0.hd=some (.dT w9):=by
        obtain⟨w9,h9⟩:=iss.hd q0.hd (by unfold GI;exact nJ.mpr ⟨q0,MU.mp hqm,rfl⟩)
        exact⟨w9,s8 _ _ h9⟩
       obtain⟨w9,hqd⟩:=hqd
       have hz8:=s8 _ _ h2
       have kt9:∀{c us},upd H7 tp (.tup (r.b.map V.int)) c=some (.tup us)->H9 c=some (.tup us):=λhc=>a4 _ _ hc (λe=>by rw[e,hz8] at hc;cases hc) (λe=>by obtain⟨vs,h9⟩:=(iss.same s8).fours _ e;rw[hc] at h9;cases h9) (λe=>by rw[e,hqd] at hc;cases hc)
       have kl9:∀{c us},upd H7 tp (.tup (r.b.map V.int)) c=some (.lst us)->c≠z.p->c∉z.four->H9 c=some (.lst us):=λhc n1 n2=>a4 _ _ hc n1 n2 (λe=>by rw[e,hqd] at hc;cases hc)
       have hg9:=kl9 (s8 _ _ hGg) hgz hg4
       have hl9:=kl9 (s8 _ _ hGl) hlz hl4
       have hd9:H9 d=some (.dT kvs):=a4 _ _ hGd8 (λe=>by rw[e,hz8] at hGd8;cases hGd8) (λe=>by obtain⟨vs,h9⟩:=(iss.same s8).fours _ e;rw[hGd8] at h9;cases h9) (λe=>(ihd q0 hqm).1 e.symm)
       have hyl:=Paired.length hPg
       have hml:=ifi.ml
       refine⟨.inl ⟨rfl,_,xE.of hg9⟩,λtq htq=>?_⟩
       obtain⟨b10,c10⟩:=UF (o:=.tup [V.ref t,V.ref t']) htq
       have hg10:=b10 _ _ hg9
       have kp:∀{c u},H9 c=some u->(∀us,u≠.lst us)->upd (upd H9 tq (.tup [V.ref t,V.ref t'])) g (.lst (ys++[V.ref tq])) c=some u:=λ{c u} hc hn=>by rw[AE (qG (b10 _ _ hc) hg10 (λe=>hn _ e))];exact b10 _ _ hc
       have c11:upd (upd H9 tq (.tup [V.ref t,V.ref t'])) g (.lst (ys++[V.ref tq])) tq=some (.tup [V.ref t,V.ref t']):=by rw[AE (qG c10 hg10 (λz=>nomatch z))];exact c10
       refine⟨ys,hg10,by omega,?_⟩
       refine⟨by rw[esucc];exact (a1.same b10).lup hg10 hg4 (λy hy=>by obtain⟨y0,h8,_,h9⟩:=hal y hy;rw[h9];exact (ihd y0 h8).2),by rw[esucc];exact a2,by rw[esucc];exact a3,by rw[esucc];exact λy hy=>(by obtain⟨y0,h8,h9,h10⟩:=hal y hy;rw[h9,h10];exact ihd y0 h8),⟨kvs,kp hd9 (λ_ z=>nomatch z),?_⟩,⟨_,bF,?_⟩,⟨?_,?_⟩,fn,?_,?_⟩
       ·rw[esucc]
        exact Paired.mapP hPd λ_ _ ⟨e1,a,e2,e3⟩=>⟨e1,a,e2,kp (kt9 (s8 _ _ e3)) (λ_ z=>nomatch z)⟩
       ·rw[esucc]
        exact dJ (Paired.mapP hPg λ_ _ h=>h.to λc us hc=>kp (kt9 (s8 _ _ hc)) (λ_ z=>nomatch z)) ⟨tq,t,t',rfl,c11,⟨t,rfl,kp (kt9 ht8) (λ_ z=>nomatch z)⟩,⟨t',rfl,kp (kt9 ht8') (λ_ z=>nomatch z)⟩⟩
       ·rw[AE hgl];exact b10 _ _ hl9
       ·exact Paired.mapP hPl λ_ _ ⟨a,e1,e3⟩=>⟨a,e1,kp (kt9 (s8 _ _ e3)) (λ_ z=>nomatch z)⟩
       ·refine λc o hc n1 n2 n3=>?_
        have hc6:=ikd c o hc n1 n2 n3
        have hc9:=a4 c o (s8 _ _ hc6) n1 n2 (λe=>by rw[e] at hc6;have:=s8 _ _ hc6;rw[hqd] at this;exact n3 _ (cA this).symm)
        rw[AE (λe=>by rw[e,hg0] at hc;cases hc)]
        exact b10 _ _ hc9
       ·intro c hc
        by_cases e9:c=g
        ·rw[e9,bF] at hc;cases hc
        ·rw[AE e9] at hc
         exact idm c (cG s8 (a5 c (cG b10 hc)))
     ·cases e2:x.F.find? λe=>decide (e.1=r.b) with
      |some e=>rw[e2] at fd;obtain⟨v',fd1,_⟩:=fd;rw[hv] at fd1;cases fd1
      |none=>
       rw[e2] at esucc
       have esucc:aF s (i+1)={x with F:=x.F++[(r.b,p)]}:=esucc
       have ep:nG kvs (sI r.b) (.ref t)=kvs++[(sI r.b,.ref t)]:=M1 hv
       rw[ep]
       have kp:∀{c u},upd H7 tp (.tup (r.b.map V.int)) c=some u->(∀us,u≠.dT us)->upd (upd H7 tp (.tup (r.b.map V.int))) d (.dT (kvs++[(sI r.b,.ref t)])) c=some u:=λ{c u} hc hn=>by rw[AE (λe=>by rw[e,hGd8] at hc;exact hn _ (cA hc).symm)];exact hc
       refine⟨true,zH (FO p),iR (kp ht8 (λ_ z=>nomatch z)),zH (FO p),iR (kp ht8 (λ_ z=>nomatch z)),iT _ _,by rw[jT];omega,?_⟩
       rw[fT,AA rfl]
       refine KJ rfl ?_
       refine⟨by rw[esucc];exact (iss.same s8).dup hGd8 (λr hr=>(ihd r hr).1),by rw[esucc];exact iap,by rw[esucc];exact itw,by rw[esucc];exact ihd,⟨_,bF,?_⟩,⟨ys,kp (s8 _ _ hGg) (λ_ z=>nomatch z),?_⟩,⟨kp (s8 _ _ hGl) (λ_ z=>nomatch z),Paired.mapP hPl λ_ _ ⟨a,e1,e3⟩=>⟨a,e1,kp (s8 _ _ e3) (λ_ z=>nomatch z)⟩⟩,fn,ikd.trans (λc o hc _ _ hn=>kp (s8 _ _ hc) hn),λc hc=>idm c ?_⟩
       ·rw[esucc]
        exact dJ (Paired.mapP hPd λ_ _ ⟨e1,a,e2,e3⟩=>⟨e1,a,e2,kp (s8 _ _ e3) (λ_ z=>nomatch z)⟩) ⟨rfl,t,rfl,kp ht8 (λ_ z=>nomatch z)⟩
       ·rw[esucc]
        exact Paired.mapP hPg λ_ _ h=>h.to λc us hc=>kp (s8 _ _ hc) (λ_ z=>nomatch z)
       ·by_cases e9:c=d
        ·rw[e9,bF] at hc;cases hc
        ·rw[AE e9] at hc;exact cG s8 hc
  ·rintro⟨v3,v4,v5,rfl,hI⟩
   obtain⟨ys,hGg,hPg⟩:=hI.gg
   rw[Paired.length hI.ll.2] at *
   walk_at "wp"
   exact q _ g ys hI.ss hI.ap hI.tw hI.fi hg0 hGg hPg hI.kd hI.dm
noncomputable abbrev Lb:=Addr->Nat
noncomputable def lab (L:Lb) (p:Addr) (k:Nat):Lb:=λc=>if c=p then k else L c
theorem FH {L:Lb} {p:Addr} {k:Nat}:lab L p k p=k:=iA rfl
theorem aH {L:Lb} {p c:Addr} {k:Nat} (h:c≠p):lab L p k c=L c:=fA h
noncomputable def Lv (L:Lb) (H:Hp):Prop:=∀c,L c≠0->∃us,H c=some (.lst us)
noncomputable def Lx (L L':Lb) (H:Hp):Prop:=∀c,L' c=L c\/H c=none
noncomputable def Dm (H H':Hp):Prop:=∀c,H' c=none->H c=none
noncomputable def TF (o:HO):Prop:=∃us,o=.tup us\/∃p,o=.frz p (.lst us)
theorem PN {us:List V}:TF (.tup us):=⟨us,.inl rfl⟩
theorem Lv.zero {L:Lb} {H:Hp} (h:Lv L H) {c:Addr} {o:HO} (hc:H c=some o) (ho:∀us,o≠.lst us):L c=0:=ZC λe=>by
 obtain⟨us,h9⟩:=h c e
 rw[hc] at h9
 exact ho us (cA h9)
theorem gM {o:HO} (h:TF o):∀us,o≠.lst us:=λus z=>by
 obtain⟨ws,h|⟨p,h⟩⟩:=h<;>(rw[z] at h;cases h)
theorem Lv.lx {L L':Lb} {H:Hp} (h:Lv L H) (x:Lx L L' H) {c:Addr} (hc:L c≠0):L' c=L c:=by
 rcases x c with e|e
 ·exact e
 ·obtain⟨us,h9⟩:=h c hc
  rw[e] at h9;cases h9
structure Mv (S:List Nat) (L L':Lb) (H H':Hp):Prop where
 lx:Lx L L' H
 kw:∀c o,H c=some o->L c∉S->H' c=some o
 dm:Dm H H'
theorem Lx.at {L L':Lb} {H:Hp} (x:Lx L L' H) {c:Addr} {o:HO} (h:H c=some o):L' c=L c:=by
 rcases x c with e|e
 ·exact e
 ·rw[e] at h;cases h
theorem Dm.some {H H':Hp} (d:Dm H H') {c:Addr} {o:HO} (h:H c=some o):∃o',H' c=some o':=by
 cases e:H' c with
 |none=>rw[d c e] at h;cases h
 |some o'=>exact⟨o',rfl⟩
theorem Mv.of {S:List Nat} {L:Lb} {H H':Hp} (s:vE H H'):Mv S L L H H':=⟨λ_=>.inl rfl,λ_ _ h _=>s _ _ h,λ_ h=>cG s h⟩
theorem Lx.trans {L L1 La2:Lb} {H H1:Hp} (a:Lx L L1 H) (d:Dm H H1) (b:Lx L1 La2 H1):Lx L La2 H:=λc=>by
 rcases a c with e|e
 ·rcases b c with e2|e2
  ·exact .inl (e2.trans e)
  ·exact .inr (d c e2)
 ·exact .inr e
theorem Mv.trans {S:List Nat} {L L1 La2:Lb} {H H1 H2:Hp} (a:Mv S L L1 H H1) (b:Mv S L1 La2 H1 H2):Mv S L La2 H H2:=
 ⟨a.lx.trans a.dm b.lx,λc o h n=>b.kw c o (a.kw c o h n) (by rw[a.lx.at h];exact n),λc h=>a.dm c (b.dm c h)⟩
theorem Mv.sub {S S':List Nat} {L L':Lb} {H H':Hp} (a:Mv S L L' H H') (h:∀k∈S,k∈S'):Mv S' L L' H H':=⟨a.lx,λc o hc n=>a.kw c o hc λz=>n (h _ z),a.dm⟩
theorem Mv.new {S:List Nat} {L:Lb} {H:Hp} {p:Addr} {k:Nat} {o:HO} (h:H p=none):Mv S L (lab L p k) H (upd H p o):=
 ⟨λc=>by
  by_cases e:c=p
  ·rw[e];exact .inr h
  ·exact .inl (aH e),λc o' hc _=>by rw[AE (NF hc h)];exact hc,λc hc=>cG (WF sF h) hc⟩
theorem Mv.set {S:List Nat} {L:Lb} {H:Hp} {a:Addr} {us us':List V} (h:H a=some (.lst us)) (hs:L a∈S):Mv S L L H (upd H a (.lst us')):=
 ⟨λ_=>.inl rfl,λc o hc n=>by rw[AE (λe=>n (by rw[e];exact hs))];exact hc,λc hc=>by
  by_cases e:c=a
  ·rw[e,bF] at hc;cases hc
  ·rw[AE e] at hc;exact hc⟩
theorem Lv.same {L:Lb} {H H':Hp} (h:Lv L H) (s:vE H H'):Lv L H':=λc hc=>let ⟨us,e⟩:=h c hc;⟨us,s _ _ e⟩
theorem Lv.new {L:Lb} {H:Hp} {p:Addr} {k:Nat} {us:List V} (l:Lv L H) (h:H p=none):Lv (lab L p k) (upd H p (.lst us)):=λc hc=>by
 by_cases e:c=p
 ·rw[e,bF];exact⟨_,rfl⟩
 ·rw[aH e] at hc
  rw[AE e];exact l c hc
theorem Lv.set {L:Lb} {H:Hp} {a:Addr} {us':List V} (l:Lv L H):Lv L (upd H a (.lst us')):=λc hc=>by
 by_cases e:c=a
 ·rw[e,bF];exact⟨_,rfl⟩
 ·rw[AE e];exact l c hc
structure Zv (S:List Nat) (L L':Lb) (H H':Hp):Prop where
 lx:Lx L L' H
 kz:∀c o,H c=some o->(TF o\/(L c≠0/\L c∉S))->H' c=some o
 dm:Dm H H'
theorem Zv.of {S:List Nat} {L:Lb} {H H':Hp} (s:vE H H'):Zv S L L H H':=⟨λ_=>.inl rfl,λ_ _ h _=>s _ _ h,λ_ h=>cG s h⟩
theorem Mv.zv {S:List Nat} {L L':Lb} {H H':Hp} (a:Mv S L L' H H') (l:Lv L H) (h0:0∉S):Zv S L L' H H':=⟨a.lx,λc o hc n=>a.kw c o hc (by
 rcases n with n|n
 ·rw[l.zero hc (gM n)];exact h0
 ·exact n.2),a.dm⟩
theorem Zv.trans {S:List Nat} {L L1 La2:Lb} {H H1 H2:Hp} (a:Zv S L L1 H H1) (b:Zv S L1 La2 H1 H2):Zv S L La2 H H2:=
 ⟨a.lx.trans a.dm b.lx,λc o h n=>b.kz c o (a.kz c o h n) (n.imp id λn=>by rw[a.lx.at h];exact n),λc h=>a.dm c (b.dm c h)⟩
theorem Zv.sub {S S':List Nat} {L L':Lb} {H H':Hp} (a:Zv S L L' H H') (h:∀k∈S,k∈S'):Zv S' L L' H H':=⟨a.lx,λc o hc n=>a.kz c o hc (n.imp id λn=>⟨n.1,λz=>n.2 (h _ z)⟩),a.dm⟩
theorem Zv.tup {S:List Nat} {L L':Lb} {H H':Hp} (a:Zv S L L' H H') {c:Addr} {us:List V} (h:H c=some (.tup us)):H' c=some (.tup us):=a.kz _ _ h (.inl PN)
theorem Zv.lst {S:List Nat} {L L':Lb} {H H':Hp} (a:Zv S L L' H H') {c:Addr} {us:List V} {k:Nat} (h:H c=some (.lst us)) (hk:L c=k) (h0:k≠0) (hs:k∉S):H' c=some (.lst us)/\L' c=k:=⟨a.kz _ _ h (.inr (by rw[hk];exact⟨h0,hs⟩)),by rw[a.lx.at h];exact hk⟩
theorem Zv.ks {C P S:Addr} {z:Ss} {s s':St} {L:Lb} {H H':Hp} (hS:yE C P S H z s) (hS':yE C P S H' z s') (k:Kd z H H') (l0:∀c∈z.four,L c=0) (l:Lv L H) (dm:Dm H H'):Zv [] L L H H':=⟨λ_=>.inl rfl,λc o hc n=>(by
 obtain⟨dx,h1⟩:=hS.me
 refine k c o hc (λe=>?_) (λe=>?_) (λkvs e=>?_)
 ·rcases n with n|n
  ·rw[e,h1] at hc
   obtain⟨ws,h|⟨p,h⟩⟩:=n<;>(rw[<-cA hc] at h;cases h)
  ·obtain⟨us,h9⟩:=l c n.1
   rw[e,h1] at h9;cases h9
 ·rcases n with n|n
  ·obtain⟨us,h9⟩:=hS.fours c e
   rw[hc] at h9
   exact gM n us (cA h9)
  ·exact n.1 (l0 c e)
 ·rcases n with n|n
  ·obtain⟨ws,h|⟨p,h⟩⟩:=n<;>(rw[e] at h;cases h)
  ·obtain⟨us,h9⟩:=l c n.1
   rw[hc,e] at h9;cases h9),dm⟩
theorem CQ {S:Addr} {H H':Hp} {vs:List V} {rows:List (Option Sh)} (h:lG S H vs rows) (k:∀v r,r∈rows->lF S H v r->lF S H' v r):lG S H' vs rows:=by
 induction h with
 |nil=>exact .nil
 |@cons x y _ _ h t ih=>exact .cons (k _ _ (wA ..) h) (ih λv r hr=>k v r (jA _ hr))
theorem yE.mv {C P S:Addr} {z:Ss} {s:St} {L L':Lb} {N:List Nat} {H H':Hp} (h:yE C P S H z s) (m:Mv N L L' H H') (l:Lv L H) (h0:0∉N) (l0:∀c∈z.four,L c=0) (lb:∀r,some r∈s.fr\/some r∈s.sr->L r.bx=0):yE C P S H' z s:=by
 obtain⟨dx,h1⟩:=h.me
 obtain⟨dx1,vs1,f1,f2,f3,f4,f5⟩:=id h.fr
 obtain⟨dx2,vs2,g1,g2,g3,g4,g5⟩:=id h.sl
 have kn:∀{c o},H c=some o->(∀us,o≠.lst us)->H' c=some o:=λhc hn=>m.kw _ _ hc (by rw[l.zero hc hn];exact h0)
 have kl:∀{c o},H c=some o->L c=0->H' c=some o:=λhc hn=>m.kw _ _ hc (by rw[hn];exact h0)
 have ks:∀{v:V} {r:Option Sh},(∀q,r=some q->L q.bx=0)->lF S H v r->lF S H' v r:=λ{v r} hb hv=>by
  cases r with
  |none=>exact hv
  |some r=>
   obtain⟨a,⟨d,h1⟩,h2,h3⟩:=hv
   exact⟨a,⟨d,kn h1 λ_ z=>nomatch z⟩,kl h2 (hb r rfl),kn h3 λ_ z=>nomatch z⟩
 have kp:∀{vs:List V} {rows:List (Option Sh)},lG S H vs rows->(∀r,some r∈rows->L r.bx=0)->lG S H' vs rows:=λhl hb=>CQ hl λv r hr h=>ks (λq e=>hb q (by rw[<-e];exact hr)) h
 exact⟨⟨dx,kn h1 λ_ z=>nomatch z⟩,⟨dx1,vs1,kn f1 (λ_ z=>nomatch z),kl f2 (l0 _ (IJ (f:=true))),kp f3 (λr hr=>lb r (.inl hr)),kl f4 (l0 _ (TL (f:=true))),f5⟩,⟨dx2,vs2,kn g1 (λ_ z=>nomatch z),kl g2 (l0 _ (IJ (f:=false))),kp g3 (λr hr=>lb r (.inr hr)),kl g4 (l0 _ (TL (f:=false))),g5⟩,h.n4,h.bx,h.len,h.hh⟩
theorem Ks.dm {C P S:Addr} {z:Ss} {s s':St} {H G:Hp} (k:Ks z H G) (h:yE C P S H z s) (h':yE C P S G z s'):Dm H G:=λ_ hc=>k.was h h' hc
noncomputable def RF (H:Hp) (L:Lb) (v:V):Option Sh->Option Nat->Prop
 |none,_=>v=.non
 |some r,o=>v=.ref r.sh/\H r.sh=some (.lst [.ref r.bx,.ref r.hd,oV o])/\H r.bx=some (.lst (r.b.map V.int))/\VH H r.hd r.ks/\L r.sh=2/\L r.bx=3/\L r.hd=4
noncomputable def RS (H:Hp) (L:Lb) (B:Nat->List Int) (v:V):Option Sh->Option Nat->Prop
 |some r,_=>RF H L v (some r) none
 |none,none=>v=.non
 |none,some i=>∃a ba ha,v=.ref a/\H a=some (.lst [.ref ba,.ref ha,.int (i:Int)])/\H ba=some (.lst ((B i).map V.int))/\H ha=some (.lst [])/\L a=2/\L ba=3/\L ha=4
theorem VH.to {H H':Hp} {l:Addr} {ks:List (List Key)} (h:VH H l ks) (k:∀us,H l=some (.lst us)->H' l=some (.lst us)) (kt:∀c us,H c=some (.tup us)->H' c=some (.tup us)):VH H' l ks:=let ⟨us,h1,h2⟩:=h;⟨us,k _ h1,Paired.mapP h2 λ_ _ ⟨a,e,q⟩=>⟨a,e,kt _ _ q⟩⟩
structure Kr (L L':Lb) (H H':Hp):Prop where
 kt:∀c us,H c=some (.tup us)->H' c=some (.tup us)
 k3:∀c us,H c=some (.lst us)->L c=3\/L c=4->H' c=some (.lst us)
 kl:∀c,L c≠0->L' c=L c
theorem RF.kr {H H':Hp} {L L':Lb} {v:V} (k:Kr L L' H H'):∀{r:Option Sh} {o:Option Nat},RF H L v r o->(∀q,r=some q->H' q.sh=H q.sh)->RF H' L' v r o
 |none,_,h,_=>h
 |some r,o,⟨e,h1,h2,h3,l1,l2,l3⟩,hr=>⟨e,(hr r rfl).trans h1,k.k3 _ _ h2 (.inl l2),h3.to (λus hu=>k.k3 _ _ hu (.inr l3)) k.kt,by rw[k.kl _ (by rw[l1];decide)];exact l1,by rw[k.kl _ (by rw[l2];decide)];exact l2,by rw[k.kl _ (by rw[l3];decide)];exact l3⟩
theorem RS.kr {H H':Hp} {L L':Lb} {B:Nat->List Int} {v:V} (k:Kr L L' H H'):∀{r:Option Sh} {o:Option Nat},RS H L B v r o->(∀a,v=.ref a->H' a=H a)->RS H' L' B v r o
 |some r,_,h,hr=>RF.kr (r:=some r) (o:=none) k (show RF H L v (some r) none from h) λq e=>by cases e;exact hr _ (show RF H L v (some r) none from h).1
 |none,none,h,_=>h
 |none,some i,⟨a,ba,ha,e,h1,h2,h3,l1,l2,l3⟩,hr=>⟨a,ba,ha,e,(hr a e).trans h1,k.k3 _ _ h2 (.inl l2),k.k3 _ _ h3 (.inr l3),by rw[k.kl _ (by rw[l1];decide)];exact l1,by rw[k.kl _ (by rw[l2];decide)];exact l2,by rw[k.kl _ (by rw[l3];decide)];exact l3⟩
structure Lq (H:Hp) (L:Lb) (pl fl sl:Addr) (h:Nat) (fr sr:List (Option Sh)) (tf ts:List (Option Nat)) (B:Nat->List Int):Prop where
 hp:H pl=some (.lst [.ref fl,.ref sl,.int (h:Int)])
 hf:∃us,H fl=some (.lst us)/\us.length=fr.length/\∀(i:Nat) r o,fr[i]?=some r->tf[i]?=some o->∃v,us[i]?=some v/\RF H L v r o
 hs:∃us,H sl=some (.lst us)/\us.length=sr.length/\∀(j:Nat) r o,sr[j]?=some r->ts[j]?=some o->∃v,us[j]?=some v/\RS H L B v r o
 l1:L pl=1/\L fl=1/\L sl=1
 ne:pl≠fl/\pl≠sl/\fl≠sl
 ln:tf.length=fr.length/\ts.length=sr.length
 lv:Lv L H
section
variable {H H':Hp} {L L':Lb} {pl fl sl:Addr} {h:Nat} {fr sr:List (Option Sh)} {tf ts:List (Option Nat)} {B:Nat->List Int}
theorem RS.lab {v:V} {r:Option Sh} {o:Option Nat} (h:RS H L B v r o) {a:Addr} (e:v=.ref a):L a=2:=by
 cases r with
 |some r=>obtain⟨e2,_,_,_,l1,_⟩:=h;rw[e] at e2;cases e2;exact l1
 |none=>
  cases o with
  |none=>rw[e] at h;cases h
  |some i=>obtain⟨b,ba,ha,e2,_,_,_,l1,_⟩:=h;rw[e] at e2;cases e2;exact l1
theorem Lq.zs {N:List Nat} (q:Lq H L pl fl sl h fr sr tf ts B) (z:Zv N L L' H H') (hN:∀k∈N,4 < k) (lv:Lv L' H'):Lq H' L' pl fl sl h fr sr tf ts B:=by
 have kl0:∀c us,H c=some (.lst us)->L c≠0->L c<=4->H' c=some (.lst us):=λc us hc hl h4=>z.kz _ _ hc (.inr ⟨hl,λz=>by have:=hN _ z;omega⟩)
 have kl:∀c us,H c=some (.lst us)->(L c=1\/L c=2\/L c=3\/L c=4)->H' c=some (.lst us):=λc us hc hl=>kl0 c us hc (by omega) (by omega)
 have kr:Kr L L' H H':=⟨λc us hc=>z.tup hc,λc us hc hl=>kl c us hc (by omega),λc hc=>q.lv.lx z.lx hc⟩
 have k2:∀c,L c=2->H' c=H c:=λc hc=>by
  obtain⟨us,e⟩:=q.lv c (by rw[hc];decide)
  rw[e];exact kl _ _ e (by omega)
 obtain⟨us,h1,h2,h3⟩:=q.hf
 obtain⟨ws,g1,g2,g3⟩:=q.hs
 obtain⟨l1,l2,l3⟩:=q.l1
 have n1:∀{c},L c=1->L c≠0:=λe=>by rw[e];decide
 exact⟨kl _ _ q.hp (.inl l1),⟨us,kl _ _ h1 (.inl l2),h2,λi r o a b=>let ⟨v,e,f⟩:=h3 i r o a b;⟨v,e,f.kr kr λs e=>by subst e;exact k2 _ f.2.2.2.2.1⟩⟩,⟨ws,kl _ _ g1 (.inl l3),g2,λi r o a b=>let ⟨v,e,f⟩:=g3 i r o a b;⟨v,e,f.kr kr λa e=>k2 _ (f.lab e)⟩⟩,⟨(kr.kl _ (n1 l1)).trans l1,(kr.kl _ (n1 l2)).trans l2,(kr.kl _ (n1 l3)).trans l3⟩,q.ne,q.ln,lv⟩
theorem Lq.zv (q:Lq H L pl fl sl h fr sr tf ts B) (z:Zv [] L L' H H') (lv:Lv L' H'):Lq H' L' pl fl sl h fr sr tf ts B:=q.zs z (λ_ h=>by cases h) lv
theorem Lq.same (q:Lq H L pl fl sl h fr sr tf ts B) (s:vE H H'):Lq H' L pl fl sl h fr sr tf ts B:=q.zv (Zv.of s) (q.lv.same s)
theorem Lq.new (q:Lq H L pl fl sl h fr sr tf ts B) {p:Addr} {k:Nat} {us:List V} (hp:H p=none):Lq (upd H p (.lst us)) (lab L p k) pl fl sl h fr sr tf ts B:=q.zv ((Mv.new hp).zv q.lv (by simp)) (q.lv.new hp)
theorem Kr.one {a:Addr} {us us':List V} (ha:H a=some (.lst us)) (la:L a=1):Kr L L H (upd H a (.lst us')):=⟨λc ws hc=>by rw[AE (qG hc ha (λz=>nomatch z))];exact hc,λc ws hc hl=>by rw[AE (λe=>by rw[e,la] at hl;omega)];exact hc,λ_ _=>rfl⟩
theorem Lq.hand (q:Lq H L pl fl sl h fr sr tf ts B) {x:Nat}:Lq (upd H pl (.lst [.ref fl,.ref sl,.int (x:Int)])) L pl fl sl x fr sr tf ts B:=by
 obtain⟨us,h1,h2,h3⟩:=q.hf
 obtain⟨ws,g1,g2,g3⟩:=q.hs
 obtain⟨l1,l2,l3⟩:=q.l1
 obtain⟨n1,n2,n3⟩:=q.ne
 have kr:Kr L L H (upd H pl (.lst [.ref fl,.ref sl,.int (x:Int)])):=Kr.one q.hp l1
 have k2:∀c,L c=2->upd H pl (.lst [.ref fl,.ref sl,.int (x:Int)]) c=H c:=λc hc=>AE (λe=>by rw[e,l1] at hc;cases hc)
 exact⟨bF,⟨us,by rw[AE (Ne.symm n1)];exact h1,h2,λi r o a b=>let ⟨v,e,f⟩:=h3 i r o a b;⟨v,e,f.kr kr λs e=>by subst e;exact k2 _ f.2.2.2.2.1⟩⟩,⟨ws,by rw[AE (Ne.symm n2)];exact g1,g2,λi r o a b=>let ⟨v,e,f⟩:=g3 i r o a b;⟨v,e,f.kr kr λa e=>k2 _ (f.lab e)⟩⟩,q.l1,q.ne,q.ln,q.lv.set⟩
theorem Lq.slot (q:Lq H L pl fl sl h fr sr tf ts B) {us:List V} (hu:H sl=some (.lst us)) {j:Nat} {v:V} {r:Option Sh} {o:Option Nat} (hv:RS H L B v r o):Lq (upd H sl (.lst (us.set j v))) L pl fl sl h fr (sr.set j r) tf (ts.set j o) B:=by
 obtain⟨us0,h1,h2,h3⟩:=q.hf
 obtain⟨ws,g1,g2,g3⟩:=q.hs
 obtain rfl:us=ws:=by rw[hu] at g1;cases g1;rfl
 obtain⟨l1,l2,l3⟩:=q.l1
 obtain⟨n1,n2,n3⟩:=q.ne
 have kr:Kr L L H (upd H sl (.lst (us.set j v))):=Kr.one hu l3
 have k2:∀c,L c=2->upd H sl (.lst (us.set j v)) c=H c:=λc hc=>AE (λe=>by rw[e,l3] at hc;cases hc)
 refine⟨by rw[AE n2];exact q.hp,⟨us0,by rw[AE n3];exact h1,h2,λi r o a b=>let ⟨v,e,f⟩:=h3 i r o a b;⟨v,e,f.kr kr λs e=>by subst e;exact k2 _ f.2.2.2.2.1⟩⟩,⟨_,bF,by rw[BA,BA];exact g2,λi r' o' a b=>?_⟩,q.l1,q.ne,by rw[BA,BA];exact q.ln,q.lv.set⟩
 rw[qA] at a b
 have hln:=q.ln.2
 by_cases e:j=i
 ·subst e
  rw[iA rfl] at a b
  split at a
  ·rename_i hj
   rw[iA (by omega)] at b
   obtain rfl:r=r':=cA a
   obtain rfl:o=o':=cA b
   exact⟨v,EA (by omega),hv.kr kr λa e=>k2 _ (hv.lab e)⟩
  ·cases a
 ·rw[fA e] at a b
  obtain⟨v',e',f⟩:=g3 i r' o' a b
  exact⟨v',by rw[qA,fA e];exact e',f.kr kr λa e=>k2 _ (f.lab e)⟩
theorem Lq.frame (q:Lq H L pl fl sl h fr sr tf ts B) {us:List V} (hu:H fl=some (.lst us)) {j:Nat} {v:V} {r:Option Sh} {o:Option Nat} (hv:RF H L v r o):Lq (upd H fl (.lst (us.set j v))) L pl fl sl h (fr.set j r) sr (tf.set j o) ts B:=by
 obtain⟨us0,h1,h2,h3⟩:=q.hf
 obtain⟨ws,g1,g2,g3⟩:=q.hs
 obtain rfl:us=us0:=by rw[hu] at h1;cases h1;rfl
 obtain⟨l1,l2,l3⟩:=q.l1
 obtain⟨n1,n2,n3⟩:=q.ne
 have kr:Kr L L H (upd H fl (.lst (us.set j v))):=Kr.one hu l2
 have k2:∀c,L c=2->upd H fl (.lst (us.set j v)) c=H c:=λc hc=>AE (λe=>by rw[e,l2] at hc;cases hc)
 refine⟨by rw[AE n1];exact q.hp,⟨_,bF,by rw[BA,BA];exact h2,λi r' o' a b=>?_⟩,⟨ws,by rw[AE (Ne.symm n3)];exact g1,g2,λi r o a b=>let ⟨v,e,f⟩:=g3 i r o a b;⟨v,e,f.kr kr λa e=>k2 _ (f.lab e)⟩⟩,q.l1,q.ne,by rw[BA,BA];exact q.ln,q.lv.set⟩
 rw[qA] at a b
 have hln:=q.ln.1
 by_cases e:j=i
 ·subst e
  rw[iA rfl] at a b
  split at a
  ·rename_i hj
   rw[iA (by omega)] at b
   obtain rfl:r=r':=cA a
   obtain rfl:o=o':=cA b
   exact⟨v,EA (by omega),hv.kr kr λs e=>by subst e;exact k2 _ hv.2.2.2.2.1⟩
  ·cases a
 ·rw[fA e] at a b
  obtain⟨v',e',f⟩:=h3 i r' o' a b
  exact⟨v',by rw[qA,fA e];exact e',f.kr kr λs e=>by subst e;exact k2 _ f.2.2.2.2.1⟩
theorem Lq.twins (q:Lq H L pl fl sl h fr sr tf ts B) {B':Nat->List Int} (hb:∀(i j:Nat),ts[j]?=some (some i)->B' i=B i):Lq H L pl fl sl h fr sr tf ts B':=by
 obtain⟨ws,g1,g2,g3⟩:=q.hs
 refine⟨q.hp,q.hf,⟨ws,g1,g2,λj r o a b=>?_⟩,q.l1,q.ne,q.ln,q.lv⟩
 obtain⟨v,e,f⟩:=g3 j r o a b
 refine⟨v,e,?_⟩
 cases r with
 |some r=>exact f
 |none=>
  cases o with
  |none=>exact f
  |some i=>obtain⟨a1,ba,ha,f1,f2,f3,f4⟩:=f;exact⟨a1,ba,ha,f1,f2,by rw[hb i j b];exact f3,f4⟩
theorem Lq.free (q:Lq H L pl fl sl h fr sr tf ts B) {tf':List (Option Nat)} (hl:tf'.length=tf.length) (ht:∀(i:Nat) s,fr[i]?=some (some s)->tf'[i]?=tf[i]?):Lq H L pl fl sl h fr sr tf' ts B:=by
 obtain⟨us,h1,h2,h3⟩:=q.hf
 refine⟨q.hp,⟨us,h1,h2,λi r o a b=>?_⟩,q.hs,q.l1,q.ne,by rw[hl];exact q.ln,q.lv⟩
 cases r with
 |some s=>rw[ht i s a] at b;exact h3 i _ o a b
 |none=>
  have hi:=(aA.mp b).1
  obtain⟨v,e,f⟩:=h3 i none (tf[i]'(by omega)) a (bA _)
  exact⟨v,e,f⟩
theorem Lq.untw (q:Lq H L pl fl sl h fr sr tf ts B) {i j:Nat} {r:Sh} (hi:fr[i]?=some (some r)) (ht:tf[i]?=some (some j)) (one:∀a:Nat,tf[a]?=some (some j)->a=i) (hk:r.ks≠[]):Lq (upd H r.sh (.lst [.ref r.bx,.ref r.hd,.non])) L pl fl sl h fr sr (tf.set i none) ts B:=by
 obtain⟨us,h1,h2,h3⟩:=q.hf
 obtain⟨ws,g1,g2,g3⟩:=q.hs
 obtain⟨l1,l2,l3⟩:=q.l1
 obtain⟨v,e,⟨e1,f1,f2,f3,f4,f5,f6⟩⟩:=h3 i _ _ hi ht
 have kr:Kr L L H (upd H r.sh (.lst [.ref r.bx,.ref r.hd,.non])):=⟨λc ws hc=>by rw[AE (qG hc f1 (λz=>nomatch z))];exact hc,λc ws hc hl=>by rw[AE (λe=>by rw[e,f4] at hl;omega)];exact hc,λ_ _=>rfl⟩
 have n1:∀{c o},L c=1->H c=some o->upd H r.sh (.lst [.ref r.bx,.ref r.hd,.non]) c=some o:=λhc ho=>by rw[AE (λe=>by rw[e,f4] at hc;cases hc)];exact ho
 refine⟨n1 l1 q.hp,⟨us,n1 l2 h1,h2,λa s o ha hb=>?_⟩,⟨ws,n1 l3 g1,g2,λa s o ha hb=>?_⟩,q.l1,q.ne,by rw[BA];exact q.ln,q.lv.set⟩
 ·rw[qA] at hb
  by_cases c:i=a
  ·subst c
   rw[iA rfl,iA (aA.mp ht).1] at hb
   obtain rfl:none=o:=cA hb
   rw[hi] at ha
   obtain rfl:some r=s:=cA ha
   refine⟨v,e,e1,bF,kr.k3 _ _ f2 (.inl f5),f3.to (λus hu=>kr.k3 _ _ hu (.inr f6)) kr.kt,f4,f5,f6⟩
  ·rw[fA c] at hb
   obtain⟨v',e',f⟩:=h3 a s o ha hb
   refine⟨v',e',f.kr kr λx ex=>AE λea=>?_⟩
   subst ex
   obtain⟨_,y1,_⟩:=f
   rw[ea,f1] at y1
   simp only[OC,HO.lst.injEq,eD,QD] at y1
   have:o=some j:=by
    have:=y1.2.2
    cases o with
    |none=>cases this
    |some k=>have:(j:Int)=k:=V.int.inj this;rw[show k=j by omega]
   rw[this] at hb
   exact c (one a hb).symm
 ·obtain⟨v',e',f⟩:=g3 a s o ha hb
  refine⟨v',e',f.kr kr λx ex=>AE λea=>?_⟩
  cases s with
  |some s=>
   obtain⟨y0,y1,_⟩:=f
   rw[ex] at y0
   cases y0
   rw[ea,f1] at y1
   simp only[OC,HO.lst.injEq,eD,QD] at y1
   cases y1.2.2
  |none=>
   cases o with
   |none=>rw[ex] at f;cases f
   |some k=>
    obtain⟨b,ba,ha,y0,y1,y2,y3,_⟩:=f
    rw[ex] at y0
    cases y0
    rw[ea,f1] at y1
    simp only[OC,HO.lst.injEq,eD,QD,V.ref.injEq] at y1
    obtain⟨ls,z1,z2⟩:=f3
    rw[y1.2.1,y3] at z1
    have e9:ls=[]:=by cases z1;rfl
    rw[e9] at z2
    generalize r.ks=ks at *
    cases z2
    exact hk rfl
end
structure Lp (H:Hp) (L:Lb) (pl fl sl:Addr) (p:St):Prop where
 q:Lq H L pl fl sl p.h p.fr p.sr p.tf p.ts (jG p.fr)
 tw:Tw p
theorem Lv.zv {H H':Hp} {L:Lb} (l:Lv L H) (z:Zv [] L L H H'):Lv L H':=λc hc=>let ⟨us,h⟩:=l c hc;⟨us,z.kz _ _ h (.inr ⟨hc,by simp⟩)⟩
theorem Lp.zv {H H':Hp} {L L':Lb} {pl fl sl:Addr} {p:St} (h:Lp H L pl fl sl p) (z:Zv [] L L' H H') (lv:Lv L' H'):Lp H' L' pl fl sl p:=⟨h.q.zv z lv,h.tw⟩
theorem Lp.same {H H':Hp} {L:Lb} {pl fl sl:Addr} {p:St} (h:Lp H L pl fl sl p) (s:vE H H'):Lp H' L pl fl sl p:=⟨h.q.same s,h.tw⟩
theorem Lp.new {H:Hp} {L:Lb} {pl fl sl:Addr} {p:St} (h:Lp H L pl fl sl p) {a:Addr} {k:Nat} {us:List V} (hp:H a=none):Lp (upd H a (.lst us)) (lab L a k) pl fl sl p:=⟨h.q.new hp,h.tw⟩
theorem Mv.lab {S:List Nat} {L:Lb} {H G:Hp} {u:Addr} {k:Nat} (s:vE H G) (hu:H u=none):Mv S L (Pf.lab L u k) H G:=⟨λc=>by
 by_cases e:c=u
 ·rw[e];exact .inr hu
 ·exact .inl (aH e),λc o hc _=>s _ _ hc,λc hc=>cG s hc⟩
theorem Lv.lab {L:Lb} {H G:Hp} {u:Addr} {k:Nat} {us:List V} (l:Lv L H) (s:vE H G) (g:G u=some (.lst us)):Lv (Pf.lab L u k) G:=λc hc=>by
 by_cases e:c=u
 ·rw[e];exact⟨_,g⟩
 ·rw[aH e] at hc
  obtain⟨us,h⟩:=l c hc
  exact⟨us,s _ _ h⟩
theorem Lp.lab {H G:Hp} {L:Lb} {pl fl sl:Addr} {p:St} {u:Addr} {k:Nat} {us:List V} (h:Lp H L pl fl sl p) (s:vE H G) (hu:H u=none) (g:G u=some (.lst us)):Lp G (Pf.lab L u k) pl fl sl p:=h.zv ((Mv.lab s hu).zv h.q.lv (by simp)) (h.q.lv.lab s g)
noncomputable def rK (p:St) (c:Option Nat) (ms:List Bool) (p1:St) (i:Nat) (ps:List Int) (out:Option (Nat×Sh)):Prop:=
 (pG p.fr p.tf=some i/\p1=p/\ps=[]/\out=none)\/
 (pG p.fr p.tf=none/\∃(q:Sh) (j:Nat) (a:Addr),QK ms p.h i ps/\p.fr[i]?=some (some q)/\ZE p i c=some j/\j < p.sr.length/\p1=XF {p with h:=(i+1) % p.fr.length} i j {q with sh:=a}/\out=some (j,q))
noncomputable def fJ (H:Hp) (L:Lb) (v:V):Option (Nat×Sh)->Prop
 |none=>v=.non
 |some (j,q)=>∃o l,v=.ref o/\H o=some (.tup [.int (j:Int),.ref l])/\VH H l (JF q.ks)/\L l=5
noncomputable def GO (g c:Option Nat):Option Nat:=match g with
 |some j=>some j
 |none=>c
noncomputable def Sk (p:St) (G G':Hp):Prop:=∀(j:Nat) (w:Sh),p.sr[j]?=some (some w)->G' w.sh=G w.sh
theorem Lp.slot {G:Hp} {L:Lb} {pl fl sl:Addr} {p:St} (h:Lp G L pl fl sl p) {j:Nat} {w:Sh} (hw:p.sr[j]?=some (some w)):∃ws,G sl=some (.lst ws)/\ws.length=p.sr.length/\ws[j]?=some (.ref w.sh)/\RF G L (.ref w.sh) (some w) none:=by
 obtain⟨ws,g1,g2,g3⟩:=h.q.hs
 have hj:=(aA.mp hw).1
 have hln:=h.q.ln.2
 obtain⟨v,e,f⟩:=g3 j _ _ hw (bA (by omega))
 obtain⟨rfl,f1⟩:=id f
 exact⟨ws,g1,g2,e,f⟩
theorem Sk.of {G G':Hp} {L:Lb} {pl fl sl:Addr} {p:St} (h:Lp G L pl fl sl p) (s:vE G G'):Sk p G G':=λj w hw=>by
 obtain⟨_,_,_,_,⟨_,f1,_⟩⟩:=h.slot hw
 rw[f1];exact s _ _ f1
theorem Sk.same {G G' G2:Hp} {L:Lb} {pl fl sl:Addr} {p:St} (k:Sk p G G') (h:Lp G L pl fl sl p) (s:vE G' G2):Sk p G G2:=λj w hw=>by
 obtain⟨_,_,_,_,⟨_,f1,_⟩⟩:=h.slot hw
 have:=k j w hw
 rw[f1] at this ⊢
 exact s _ _ this
theorem Sk.upd {G G':Hp} {L:Lb} {pl fl sl a:Addr} {o:HO} {p:St} (k:Sk p G G') (h:Lp G L pl fl sl p) (ha:L a≠2):Sk p G (upd G' a o):=λj w hw=>by
 obtain⟨_,_,_,_,⟨_,_,_,_,f1,_⟩⟩:=h.slot hw
 rw[AE (λe=>ha (by rw[<-e];exact f1))]
 exact k j w hw
structure Lg (L5 L:Lb) (G:Hp) (u pl fl sl:Addr) (p:St) (i:Nat) (ps:List Int) (tf':List (Option Nat)) (G':Hp):Prop where
 q:Lq G' L5 pl fl sl ((i+1) % p.fr.length) p.fr p.sr tf' p.ts (jG p.fr)
 mv:Mv [1,2] L L5 G G'
 u5:G' u=some (.lst (ps.map V.int))
 tl:tf'.length=p.tf.length
 sk:Sk p G G'
theorem QN {l:List (Option Nat)} {j k:Nat} (hk:l[k]?=some (some j)) (one:∀a:Nat,l[a]?=some (some j)->a=k):l.set k none=l.map (cl j):=by
 refine qD λa=>?_
 rw[qA,NA]
 by_cases c:k=a
 ·subst c
  rw[iA rfl,iA (aA.mp hk).1,hk]
  show some none=some (cl j (some j))
  unfold cl
  rw[iA rfl]
 ·rw[fA c]
  cases e9:l[a]? with
  |none=>rfl
  |some o=>
   show some o=some (cl j o)
   unfold cl
   rw[fA (λz=>c (one a (by rw[e9,z])).symm)]
theorem Ta {l:List (Option Nat)} {j k:Nat} (hk:l[k]?=some (some j)) (hb:∀b < k,l[b]?=some none):CH l=some j:=by
 induction l generalizing k with
 |nil=>simp at hk
 |cons x r ih=>
  cases k with
  |zero=>simp at hk;subst hk;rfl
  |succ k=>
   have h0:=hb 0 (by omega)
   simp at h0
   subst h0
   exact ih (k:=k) (by simpa using hk) λb hb9=>by simpa using hb (b+1) (by omega)
theorem RN {l:List (Option Nat)} (hb:∀b < l.length,l[b]?=some none):CH l=none:=OD.mpr λx hx=>by
 obtain⟨b,h⟩:=dB.mp hx
 have:=hb b (aA.mp h).1
 rw[h] at this
 exact cA this
noncomputable def sp_lout:Sp:=λvs H Q _=>∃(pl fl sl m:Addr) (L:Lb) (p:St) (c:Option Nat) (ms:List Bool),vs=[.ref pl,.ref m,oV c]/\Lp H L pl fl sl p/\H m=some (.lst (ms.map V.bl))/\L m∉[1,2]/\ms.length=p.fr.length/\p.h < p.fr.length/\p.fr.length<=640/\p.sr.length<=640/\(∀r,some r∈p.fr->JJ r.ks/\r.ks≠[])/\(pG p.fr p.tf=none->∀i,∃j,ZE p i c=some j/\j < p.sr.length)/\
 ∀H' L' p1 i ps out t e v3,rK p c ms p1 i ps out->Lp H' L' pl fl sl p1->Mv [1,2] L L' H H'->H' t=some (.tup [.int (i:Int),.ref e,v3])->H' e=some (.lst (ps.map V.int))->fJ H' L' v3 out->L' e=5->Sk p H H'->Q (.ref t) H'
theorem W1 (T:bG K mg A):XG P w K mg base "_law_out" 1 ["_law_plain","_law_marks","_law_slot"] [] sp_lout:=by
 refine T.Fv.have AJ (λvs H Q E z=>?_) ?_
 ·obtain⟨pl,fl,sl,m,L,p,c,ms,rfl,_⟩:=z;rfl
 ·intro f cdv A' outer s H vs Q E hr z
  obtain⟨pl,fl,sl,m,L,p,c,ms,rfl,hL,hm,hlm,hml,hh,hl1,hl2,hok,hsl,q⟩:=z
  obtain⟨us,hf,hul,hrows⟩:=hL.q.hf
  obtain⟨ws,hs,hwl,hslo⟩:=hL.q.hs
  have hln:=hL.q.ln
  refine⟨_,(iF (xF (i:=3) AJ.nd rfl (Or.inl rfl) (IE eF (pE 0) EE (λ_ _=>rfl)))
   (iF (xF (i:=4) AJ.nd rfl (Or.inl rfl) (IE eF (pE 0) EE (λ_ _=>rfl)))
   (iF (GJ jB rfl (iJ rfl T.Ao (sE (QF MG rfl T.Aj PySem.boot_len (sE (pE 3) zE)) zE)) (KG (i:=5) AJ.nd rfl (Or.inl rfl)) (ME (VF (BF bI (IE eF (pE 3) (pE 5) (λ_ _=>rfl)) wF (uE _)) (ME (KF (mH (sE (pE 5) (sE (lH zE) (sE wF zE)))))) mG)))
   (iF (xF (i:=6) AJ.nd rfl (Or.inl rfl) (lH zE))
   (iF (xF (i:=7) AJ.nd rfl (Or.inl rfl) (IE eF (pE 0) EE (λ_ _=>rfl)))
   (zF (ZY jB (PW.pt (hJ (pI (IE eF (pE 1) (pE 7) (λ_ _=>rfl))) (gJ (BF YQ (QF MG rfl T.Aj PySem.boot_len (sE (pE 6) zE)) (QF MG rfl T.Aj PySem.boot_len (sE (pE 3) zE)) (uE _))))) (iF (qH (PJ PySem.F.plainAttrs_list PySem.F.slot_list_append PySem.F.type_list_append QJ (pE 6) (sE (pE 7) zE)))
   (ME (xF (i:=7) AJ.nd rfl (Or.inl rfl) (jF VG (jF PH (pE 7) EE) (QF MG rfl T.Aj PySem.boot_len (sE (pE 3) zE)))))))
   (zF (IH (jF VG (jF PH (pE 7) EE) (QF MG rfl T.Aj PySem.boot_len (sE (pE 3) zE))) (GH (pE 0) EE JH))
   (zF (xF (i:=8) AJ.nd rfl (Or.inl rfl) (IE eF (IE eF (pE 3) (pE 7) (λ_ _=>rfl)) EE (λ_ _=>rfl)))
   (zF (GJ jB rfl (iJ rfl T.Ao (sE (QF MG rfl T.Aj PySem.boot_len (sE (pE 4) zE)) zE)) (KG (i:=5) AJ.nd rfl (Or.inl rfl)) (ME (VF (PW.pt (hJ (BF bI (pE 8) wF (uE _)) (gJ (BF bI (IE eF (pE 4) (pE 5) (λ_ _=>rfl)) wF (uE _))))) (ME (xF (i:=8) AJ.nd rfl (Or.inl rfl) (pE 5))) mG)))
   (zF (GJ jB rfl (iJ rfl T.Ao (sE (QF MG rfl T.Aj PySem.boot_len (sE (pE 3) zE)) zE)) (KG (i:=5) AJ.nd rfl (Or.inl rfl)) (ME (VF (PW.pt (hJ (BF bI (pE 8) wF (uE _)) (gJ (BF cI (IE eF (IE eF (pE 3) (pE 5) (λ_ _=>rfl)) EE (λ_ _=>rfl)) wF (uE _))))) (iF (xF (i:=8) AJ.nd rfl (Or.inl rfl) (IE eF (IE eF (pE 3) (pE 5) (λ_ _=>rfl)) EE (λ_ _=>rfl)))
   (ME (IH wF (GH (IE eF (pE 3) (pE 5) (λ_ _=>rfl)) EE JH)))) mG)))
   (zF (VF (BF bI (pE 8) wF (uE _)) (ME (xF (i:=8) AJ.nd rfl (Or.inl rfl) (pE 2))) mG)
   (zF (IH (lH (sE (IE eF (IE eF (pE 3) (pE 7) (λ_ _=>rfl)) EE (λ_ _=>rfl)) (sE (IE eF (IE eF (pE 3) (pE 7) (λ_ _=>rfl)) EE (λ_ _=>rfl)) (sE wF zE)))) (GH (pE 4) (pE 8) JH))
   (zF (IH wF (GH (pE 3) (pE 7) JH))
   (ME (KF (mH (sE (pE 7) (sE (pE 6) (sE (mH (sE (pE 8) (sE (QF (PZ rfl) rfl T.Dc dD (sE (IE eF (IE eF (pE 4) (pE 8) (λ_ _=>rfl)) EE (λ_ _=>rfl)) zE)) zE))) zE))))))))))))))))))),?_⟩
  walk_at "wp"
  refine⟨_,xE.of hL.q.hp,_,HE (j:=0) rfl,_,xE.of hL.q.hp,_,HE (j:=1) rfl,_,.inl ⟨_,xE.of hf,rfl⟩,by omega,by omega,?_⟩
  refine oO (λi σ G=>∃v,σ=[some (.ref pl),some (.ref m),some (oV c),some (.ref fl),some (.ref sl),v,none,none,none]/\G=H/\∀k < i,∃r,p.fr[k]?=some (some r)) ⟨_,rfl,rfl,λk hk=>absurd hk (xC _)⟩ (λi σ G hi=>?_) (λσ G=>?_)
  ·rintro⟨v,rfl,rfl,hfull⟩
   have hil:i < p.fr.length:=by omega
   obtain⟨r,hr0⟩:∃r,p.fr[i]?=some r:=⟨_,bA hil⟩
   obtain⟨o,ho0⟩:∃o,p.tf[i]?=some o:=⟨_,bA (by omega)⟩
   obtain⟨v,hv,hF⟩:=hrows i r o hr0 ho0
   walk_at "wp"
   refine⟨us,xE.of hf,v,by rw[zB];exact HE hv,?_⟩
   cases r with
   |none=>
    obtain rfl:v=.non:=hF
    rw[iA rfl]
    intro e he t ht
    have eo:o=none:=by
     cases o with
     |none=>rfl
     |some j=>obtain⟨r,hr9⟩:=hL.tw.full i j ho0;rw[hr0] at hr9;cases hr9
    rw[eo] at ho0
    have s1:=(UF (o:=.lst []) he).1
    have s2:=(UF (o:=.tup [V.int (0+(i:Int)),V.ref e,V.non]) ht).1
    have b2:=(UF (o:=.tup [V.int (0+(i:Int)),V.ref e,V.non]) ht).2
    rw[zB] at s2 b2 ⊢
    exact q _ (lab L e 5) p i [] none t e .non (.inl ⟨U0 hr0 ho0 λk hk=>.inl (hfull k hk),rfl,rfl,rfl⟩) ((hL.new he).same s2) ((Mv.new he).trans (Mv.of s2)) b2 (s2 _ _ bF) rfl FH ((Sk.of hL s1).same hL s2)
   |some r=>
    obtain⟨rfl,_⟩:=hF
    rw[fA (λz=>nomatch z)]
    intro k hk
    rcases (by omega:k < i\/k=i) with h|rfl
    ·exact hfull k h
    ·exact⟨r,hr0⟩
  rintro⟨v5,rfl,rfl,hfull⟩
  have hnone:pG p.fr p.tf=none:=V0 λk hk=>.inl (hfull k (by omega))
  have hslF:=hsl hnone
  clear hsl
  walk_at "wp"
  intro u hu
  have a1:=(UF (o:=.lst []) hu).1
  have b1:=(UF (o:=.lst []) hu).2
  refine⟨_,xE.of (a1 _ _ hL.q.hp),_,HE (j:=2) rfl,?_⟩
  have hpos:(0:Int) < ms.length:=by omega
  refine⟨λσ G'=>∃i ps,σ=[some (.ref pl),some (.ref m),some (oV c),some (.ref fl),some (.ref sl),v5,some (.ref u),some (.int ((i:Nat):Int)),none]/\vE G G'/\QK ms p.h i ps/\i < p.fr.length/\G' u=some (.lst (ps.map V.int)),?_,λσ5 G5=>?_⟩
  ·have fin:∀(j:Nat) (H':Hp),j<=ms.length->(∀i < j,ms.getD (((p.h:Int)+i) % (ms.length:Int)).toNat false=true)->(j=ms.length\/ms.getD (((p.h:Int)+j) % (ms.length:Int)).toNat false=false)->vE G H'->H' u=some (.lst ((rg ms.length p.h j).map V.int))->∃i:Nat,((p.h:Int)+j) % (ms.length:Int)=(i:Int)/\vE G H'/\∃x,QK ms p.h i x/\i < p.fr.length/\H' u=some (.lst (x.map V.int)):=λj H' hj ha hb s1 hu'=>by
    have e0:=vC ((p.h:Int)+j) (show (ms.length:Int)≠0 by omega)
    have e1:=EC ((p.h:Int)+j) hpos
    exact⟨(((p.h:Int)+j) % (ms.length:Int)).toNat,by omega,s1,rg ms.length p.h j,⟨j,hj,ha,hb,by omega,rfl⟩,by omega,hu'⟩
   walk_at "wp"
   refine aZ (λmm σ H'=>∃j:Nat,mm=ms.length - j/\j<=ms.length/\σ=[some (.ref pl),some (.ref m),some (oV c),some (.ref fl),some (.ref sl),v5,some (.ref u),some (.int (((p.h:Int)+j) % (ms.length:Int))),none]/\vE G H'/\H' u=some (.lst ((rg ms.length p.h j).map V.int))/\(∀i < j,ms.getD (((p.h:Int)+i) % (ms.length:Int)).toNat false=true)) ms.length ⟨0,rfl,fC _,?_,a1,b1,λi hi=>absurd hi (xC _)⟩ (λmm σ H'=>?_)
   ·rw[show ((p.h:Int)+((0:Nat):Int)) % (ms.length:Int)=p.h by rw[Int.emod_eq_of_lt]<;>omega]
   ·rintro⟨j,rfl,hj,rfl,sm,hu',hall⟩
    walk_at "wp"
    have hp0:=vC ((p.h:Int)+j) (show (ms.length:Int)≠0 by omega)
    have hp1:=EC ((p.h:Int)+j) hpos
    have hat:jJ (ms.map V.bl) (((p.h:Int)+j) % (ms.length:Int))=some (.bl (ms.getD (((p.h:Int)+j) % (ms.length:Int)).toNat false)):=by
     generalize ((p.h:Int)+j) % (ms.length:Int)=y at *
     have e:=HE (xs:=ms.map V.bl) (j:=y.toNat) (v:=.bl (ms.getD y.toNat false)) (by
      have:y.toNat < ms.length:=by omega
      simp[this])
     rw[show ((y.toNat:Nat):Int)=y by omega] at e
     exact e
    refine⟨_,xE.of (sm _ _ hm),_,hat,_,rfl,?_⟩
    cases hb:ms.getD (((p.h:Int)+j) % (ms.length:Int)).toNat false with
    |false=>exact gF (fin j H' hj hall (.inr hb) sm hu')
    |true=>
     refine oG ⟨j,.inl ⟨_,xE.of hu',by rw[lA,MR]⟩,us.length,.inl ⟨_,xE.of (sm _ _ hf),rfl⟩,?_⟩
     by_cases c9:(j:Int) < us.length
     ·rw[iA c9]
      refine yL ?_
      walk_at "wp"
      refine⟨.inl ⟨rfl,_,xE.of hu'⟩,_,hu',by rw[lA,MR];omega,us.length,.inl ⟨_,xE.of ((pH sm hu) _ _ hf),rfl⟩,by omega,ms.length - (j+1),by omega,j+1,rfl,by omega,?_,pH sm hu,?_,λi hi=>?_⟩
      ·rw[hul,<-hml,Int.emod_add_emod]
       congr 1
      ·rw[u0,aB];rfl
      ·rcases (by omega:i < j\/i=j) with hi|rfl
       ·exact hall i hi
       ·exact hb
     ·rw[fA c9]
      exact fin j H' hj hall (.inl (by omega)) sm hu'
  rintro⟨i,ps,rfl,s5,hsw,hil,hu5⟩
  have hL5:Lp G5 (lab L u 5) pl fl sl p:=hL.lab s5 hu hu5
  have m5:Mv [1,2] L (lab L u 5) G G5:=Mv.lab s5 hu
  have hu5l:lab L u 5 u=5:=FH
  generalize lab L u 5=L5 at *
  have hfull:∀k < p.fr.length,∃r,p.fr[k]?=some (some r):=λk hk=>hfull k (by omega)
  have k5:=Sk.of hL s5
  clear hrows hslo hf hs s5 a1 b1 hm
  refine⟨λσ G'=>σ=[some (.ref pl),some (.ref m),some (oV c),some (.ref fl),some (.ref sl),v5,some (.ref u),some (.int ((i:Nat):Int)),none]/\Lp G' L5 pl fl sl {p with h:=(i+1) % p.fr.length}/\Mv [1,2] L L5 G G'/\G' u=some (.lst (ps.map V.int))/\Sk p G G',?_,λσ6 G6=>?_⟩
  ·obtain⟨us,hf,hul,hrows⟩:=hL5.q.hf
   walk_at "wp"
   have hmod:((i:Int)+1) % (us.length:Int)=(((i+1) % p.fr.length:Nat):Int):=by rw[hul,Int.natCast_emod,Int.natCast_add];rfl
   refine⟨us.length,.inl ⟨_,xE.of hf,rfl⟩,by omega,_,hL5.q.hp,2,DH (by show 2 < 3;decide),?_⟩
   rw[hmod]
   have nup:u≠pl:=λe=>by rw[e,hL5.q.l1.1] at hu5l;cases hu5l
   exact⟨⟨hL5.q.hand,hL5.tw.hand⟩,m5.trans (Mv.set hL5.q.hp (by rw[hL5.q.l1.1];simp)),by rw[AE nup];exact hu5,k5.upd hL (by rw[hL.q.l1.1];decide)⟩
  rintro⟨rfl,hL6,m6,pO,k6⟩
  clear hL5 m5 hu5
  obtain⟨r,hri⟩:=hfull i (by omega)
  obtain⟨o,hoi⟩:∃o,p.tf[i]?=some o:=⟨_,bA (by omega)⟩
  obtain⟨okr,nkr⟩:=hok r (dA hri)
  refine⟨λσ G'=>σ=[some (.ref pl),some (.ref m),some (oV c),some (.ref fl),some (.ref sl),v5,some (.ref u),some (.int ((i:Nat):Int)),some (oV o)]/\G'=G6,?_,λσ7 G7=>?_⟩
  ·obtain⟨us,hf,hul,hrows⟩:=hL6.q.hf
   obtain⟨v,hv,⟨rfl,f1,_⟩⟩:=hrows i _ _ hri hoi
   walk_at "wp"
   exact⟨_,xE.of hf,_,HE hv,r.sh,rfl,_,xE.of f1,_,HE (j:=2) rfl,rfl⟩
  rintro⟨rfl,rfl⟩
  refine⟨λσ G'=>∃v5 g,σ=[some (.ref pl),some (.ref m),some (oV c),some (.ref fl),some (.ref sl),v5,some (.ref u),some (.int ((i:Nat):Int)),some (oV g)]/\G'=G7/\g=GO o (pG p.sr p.ts),?_,λσ8 G8=>?_⟩
  ·obtain⟨ws,hs,hwl,hslo⟩:=hL6.q.hs
   have hwl:ws.length=p.sr.length:=hwl
   walk_at "wp"
   refine⟨_,.inl ⟨_,xE.of hs,rfl⟩,by omega,by omega,?_⟩
   refine oO (λk σ G'=>∃v5 g,σ=[some (.ref pl),some (.ref m),some (oV c),some (.ref fl),some (.ref sl),v5,some (.ref u),some (.int ((i:Nat):Int)),some (oV g)]/\G'=G7/\((∃j,g=some j/\(o=some j\/(o=none/\pG p.sr p.ts=some j)))\/(g=none/\o=none/\∀b < k,(∃r,p.sr[b]?=some (some r))\/∃t,p.ts[b]?=some (some t)))) ⟨_,o,rfl,rfl,?_⟩ (λk σ G' hk=>?_) (λσ G'=>?_)
   ·cases o with
    |some j=>exact .inl ⟨j,rfl,.inl rfl⟩
    |none=>exact .inr ⟨rfl,rfl,λb hb=>absurd hb (xC _)⟩
   ·rintro⟨v6,g,rfl,rfl,hg⟩
    have hkl:k < p.sr.length:=by omega
    obtain⟨r2,hr2⟩:∃r,p.sr[k]?=some r:=⟨_,bA hkl⟩
    obtain⟨o2,ho2⟩:∃o,p.ts[k]?=some o:=⟨_,bA (by omega)⟩
    obtain⟨v,hv,hF⟩:=hslo k r2 o2 hr2 ho2
    walk_at "wp"
    rcases hg with ⟨j,rfl,hj⟩|⟨rfl,rfl,hb⟩
    ·rw[fA (show ¬(oV (some j)=V.non) from λz=>nomatch z)]
     exact⟨some j,rfl,.inl ⟨j,rfl,hj⟩⟩
    ·rw[iA (show oV none=V.non from rfl)]
     refine⟨ws,xE.of hs,v,by rw[zB];exact HE hv,?_⟩
     have more:((∃r,p.sr[k]?=some (some r))\/∃t,p.ts[k]?=some (some t))->∀b < k+1,(∃r,p.sr[b]?=some (some r))\/∃t,p.ts[b]?=some (some t):=λh b hb9=>by
      rcases (by omega:b < k\/b=k) with h9|rfl
      ·exact hb b h9
      ·exact h
     cases r2 with
     |some r2=>
      obtain⟨rfl,_⟩:=hF
      rw[fA (λz=>nomatch z)]
      exact⟨none,rfl,.inr ⟨rfl,rfl,more (.inl ⟨_,hr2⟩)⟩⟩
     |none=>
      cases o2 with
      |none=>
       obtain rfl:v=.non:=hF
       rw[iA rfl]
       exact⟨some k,by rw[zB];rfl,.inl ⟨k,rfl,.inr ⟨rfl,U0 hr2 ho2 hb⟩⟩⟩
      |some b=>
       obtain⟨a,_,_,rfl,_⟩:=hF
       rw[fA (λz=>nomatch z)]
       exact⟨none,rfl,.inr ⟨rfl,rfl,more (.inr ⟨_,ho2⟩)⟩⟩
   ·rintro⟨v6,g,rfl,rfl,hg⟩
    refine⟨_,g,rfl,rfl,?_⟩
    rcases hg with ⟨j,rfl,rfl|⟨rfl,e⟩⟩|⟨rfl,rfl,hb⟩
    ·rfl
    ·exact e.symm
    ·exact (V0 λk hk=>hb k (by omega)).symm
  rintro⟨v8,g,rfl,rfl,hg⟩
  have hsf:∀c,ZE p i c=GO g (GO (CH p.tf) c):=λc=>by
   unfold ZE
   rw[hoi,hg]
   unfold GO
   cases o with
   |some j=>rfl
   |none=>
    cases pG p.sr p.ts with
    |some j=>rfl
    |none=>rfl
  refine⟨λσ G'=>∃v5 g2 tf',σ=[some (.ref pl),some (.ref m),some (oV c),some (.ref fl),some (.ref sl),v5,some (.ref u),some (.int ((i:Nat):Int)),some (oV g2)]/\Lg L5 L G u pl fl sl p i ps tf' G'/\((g2=none/\tf'=p.tf/\g=none/\CH p.tf=none)\/(∃j,g2=some j/\ZE p i none=some j/\∀a:Nat,a≠i->tf'[a]?=(p.tf.map (cl j))[a]?)),?_,λσ9 G9=>?_⟩
  ·obtain⟨us,hf,hul,hrows⟩:=hL6.q.hf
   have hul:us.length=p.fr.length:=hul
   walk_at "wp"
   refine⟨_,.inl ⟨_,xE.of hf,rfl⟩,by omega,by omega,?_⟩
   have hown:∀{j},g=some j->∀a:Nat,a≠i->p.tf[a]?=(p.tf.map (cl j))[a]?:=λ{j} e a ha=>by
    rw[e] at hg
    cases o with
    |some j2=>
     obtain rfl:j=j2:=cA hg
     rw[NA]
     cases e9:p.tf[a]? with
     |none=>rfl
     |some y=>
      show some y=some (cl j y)
      unfold cl
      rw[fA (λz=>?_)]
      rw[z] at e9
      have x1:=hL.tw.there a j e9
      rw[hL.tw.there i j hoi] at x1
      exact ha (cA (cA x1)).symm
    |none=>
     have e9:pG p.sr p.ts=some j:=hg.symm
     rw[VR λa h=>by have:=hL.tw.there a j h;rw[(CO e9).2] at this;cases this]
   refine oO (λk σ G'=>∃v5 g2 tf',σ=[some (.ref pl),some (.ref m),some (oV c),some (.ref fl),some (.ref sl),v5,some (.ref u),some (.int ((i:Nat):Int)),some (oV g2)]/\Lg L5 L G u pl fl sl p i ps tf' G'/\((g2=none/\tf'=p.tf/\g=none/\∀b < k,p.tf[b]?=some none)\/(∃j,g2=some j/\ZE p i none=some j/\∀a:Nat,a≠i->tf'[a]?=(p.tf.map (cl j))[a]?))) ⟨_,g,p.tf,rfl,⟨hL6.q,m6,pO,rfl,k6⟩,?_⟩ (λk σ G' hk=>?_) (λσ G'=>?_)
   ·cases g with
    |none=>exact .inl ⟨rfl,rfl,rfl,λb hb=>absurd hb (xC _)⟩
    |some j=>exact .inr ⟨j,rfl,hsf none,hown rfl⟩
   ·rintro⟨v6,g2,tf',rfl,hG,hd⟩
    have hkl:k < p.fr.length:=by omega
    obtain⟨r2,hr2⟩:=hfull k hkl
    obtain⟨us,hf,hul,hrows⟩:=hG.q.hf
    walk_at "wp"
    rcases hd with ⟨rfl,rfl,rfl,hb⟩|⟨j,rfl,hj⟩
    ·obtain⟨o2,ho2⟩:∃o,p.tf[k]?=some o:=⟨_,bA (by omega)⟩
     obtain⟨v,hv,⟨rfl,f1,_⟩⟩:=hrows k _ _ hr2 ho2
     rw[iA (show oV none=V.non from rfl),zB]
     refine⟨us,xE.of hf,_,HE hv,r2.sh,rfl,_,xE.of f1,oV o2,HE (j:=2) rfl,?_⟩
     cases o2 with
     |none=>
      refine KJ (by rw[AA (show oV none=V.non from rfl)];rfl) ⟨none,rfl,p.tf,hG,.inl ⟨rfl,rfl,rfl,λb hb9=>?_⟩⟩
      rcases (by omega:b < k\/b=k) with h9|rfl
      ·exact hb b h9
      ·exact ho2
     |some j=>
      have one:∀a:Nat,p.tf[a]?=some (some j)->a=k:=λa ha=>by
       have x1:=hL.tw.there a j ha
       rw[hL.tw.there k j ho2] at x1
       exact (cA (cA x1)).symm
      refine EI (by rw[vA (show ¬(oV (some j)=V.non) from λz=>nomatch z)];rfl) ⟨us,xE.of hf,_,HE hv,r2.sh,rfl,_,xE.of f1,_,HE (j:=2) rfl,us,xE.of hf,_,HE hv,r2.sh,rfl,_,f1,2,DH (by show 2 < 3;decide),some j,rfl,p.tf.set k none,⟨?_,hG.mv.trans (Mv.set f1 (by rw[(hrows k _ _ hr2 ho2).choose_spec.2.2.2.2.2.1];simp)),?_,BA,?_⟩,.inr ⟨j,rfl,?_,λa ha=>by rw[QN ho2 one]⟩⟩
      ·exact hG.q.untw hr2 ho2 one (hok r2 (dA hr2)).2
      ·rw[AE (λe=>?_)]
       ·exact hG.u5
       ·have e2:=(hrows k _ _ hr2 ho2).choose_spec.2.2.2.2.2.1
        rw[<-e,hu5l] at e2
        cases e2
      ·intro j9 w9 hw9
       rw[AE (λe=>?_)]
       ·exact hG.sk j9 w9 hw9
       ·obtain⟨_,_,_,_,⟨_,y1,_⟩⟩:=hL.slot hw9
        have y2:=hG.sk j9 w9 hw9
        rw[y1,e,f1] at y2
        simp only[OC,HO.lst.injEq,eD,QD] at y2
        cases y2.2.2
      ·rw[hsf]
       unfold GO
       rw[Ta ho2 hb]
    ·rw[fA (show ¬(oV (some j)=V.non) from λz=>nomatch z)]
     exact⟨some j,rfl,tf',hG,.inr ⟨j,rfl,hj⟩⟩
   ·rintro⟨v6,g2,tf',rfl,hG,hd⟩
    refine⟨_,g2,rfl,tf',hG,hd.imp (λ⟨a,b,c,d⟩=>⟨a,b,c,RN λb hb=>d b (by omega)⟩) id⟩
  rintro⟨v9,g2,tf',rfl,hG9,hd⟩
  refine⟨λσ G'=>∃j tf',σ=[some (.ref pl),some (.ref m),some (oV c),some (.ref fl),some (.ref sl),v9,some (.ref u),some (.int ((i:Nat):Int)),some (.int ((j:Nat):Int))]/\Lg L5 L G u pl fl sl p i ps tf' G'/\ZE p i c=some j/\j < p.sr.length/\∀a:Nat,a≠i->tf'[a]?=(p.tf.map (cl j))[a]?,?_,λσ10 G10=>?_⟩
  ·obtain⟨j,hj1,hj2⟩:=hslF i
   walk_at "wp"
   rcases hd with ⟨rfl,rfl,rfl,hb⟩|⟨j2,rfl,hj3,hj4⟩
   ·have e1:=hsf c
    rw[hb] at e1
    have e2:c=some j:=by rw[hj1] at e1;exact e1.symm
    refine fI (λ_=>⟨j,by rw[e2];rfl,p.tf,hG9,hj1,hj2,λa _=>?_⟩) (λz=>absurd rfl z)
    rw[VR λa h=>by have:=X0 hb (aA.mp h).1;rw[this] at h;cases h]
   ·have e2:j2=j:=by
     have x1:=hsf c
     have x2:=hsf none
     rw[hj3] at x2
     rw[hj1] at x1
     unfold GO at x1 x2
     cases g with
     |some y=>exact cA (x2.trans x1.symm)
     |none=>
      cases e3:CH p.tf with
      |some y=>rw[e3] at x1 x2;exact cA (x2.trans x1.symm)
      |none=>rw[e3] at x2;cases x2
    subst e2
    exact fI (λz=>by cases z) (λ_=>⟨j2,rfl,tf',hG9,hj1,hj2,hj4⟩)
  rintro⟨j,tf',rfl,hG,hsj,hjl,htf⟩
  clear hG9 hd hsf hg hL6 m6 pO
  obtain⟨o',ho'⟩:∃o,tf'[i]?=some o:=⟨_,bA (by have:=hG.tl;omega)⟩
  refine⟨λσ G'=>∃L6 a,σ=[some (.ref pl),some (.ref m),some (oV c),some (.ref fl),some (.ref sl),v9,some (.ref u),some (.int ((i:Nat):Int)),some (.int ((j:Nat):Int))]/\Lq G' L6 pl fl sl ((i+1) % p.fr.length) p.fr (p.sr.set j (some {r with sh:=a})) tf' (p.ts.set j none) (jG p.fr)/\Mv [1,2] L L6 G G'/\G' u=some (.lst (ps.map V.int))/\L6 u=5/\Sk p G G',?_,λσ11 G11=>?_⟩
  ·obtain⟨us,hf,hul,hrows⟩:=hG.q.hf
   obtain⟨v,hv,hF⟩:=hrows i _ _ hri ho'
   obtain⟨rfl,f1,f2,f3,f4,f5,f6⟩:=id hF
   walk_at "wp"
   refine⟨us,xE.of hf,_,HE hv,r.sh,rfl,_,xE.of f1,_,HE (j:=0) rfl,us,xE.of hf,_,HE hv,r.sh,rfl,_,xE.of f1,_,HE (j:=1) rfl,λa ha=>?_⟩
   have q7:=hG.q.new (k:=2) (us:=[V.ref r.bx,V.ref r.hd,V.non]) ha
   have m7:=hG.mv.trans (Mv.new (k:=2) (o:=.lst [V.ref r.bx,V.ref r.hd,V.non]) ha)
   have l7:lab L5 a 2 a=2:=FH
   obtain⟨b7,c7⟩:=UF (o:=.lst [V.ref r.bx,V.ref r.hd,V.non]) ha
   have nl:∀{c us k},G10 c=some (.lst us)->L5 c=k->lab L5 a 2 c=k:=λhc hk=>by rw[aH (NF hc ha)];exact hk
   have hrow:RF (upd G10 a (.lst [V.ref r.bx,V.ref r.hd,V.non])) (lab L5 a 2) (.ref a) (some {r with sh:=a}) none:=⟨rfl,c7,b7 _ _ f2,f3.same b7,l7,nl f2 f5,(let ⟨ls,g1,_⟩:=f3;nl g1 f6)⟩
   have u7:=b7 _ _ hG.u5
   have k7:=hG.sk.same hL b7
   have u8:=nl hG.u5 hu5l
   generalize upd G10 a _=G12 at *
   generalize lab L5 a 2=L6 at *
   obtain⟨ws,hs,hwl,_⟩:=q7.hs
   refine⟨ws,hs,j,DH (by omega),L6,a,q7.slot (j:=j) (r:=some {r with sh:=a}) (o:=none) hs hrow,m7.trans (Mv.set hs (by rw[q7.l1.2.2];simp)),?_,u8,k7.upd hL (by rw[hL.q.l1.2.2];decide)⟩
   rw[AE (λe=>by rw[e,q7.l1.2.2] at u8;cases u8)]
   exact u7
  rintro⟨L6,a,rfl,q11,m11,u11,l11,k11⟩
  refine⟨λσ G'=>σ=[some (.ref pl),some (.ref m),some (oV c),some (.ref fl),some (.ref sl),v9,some (.ref u),some (.int ((i:Nat):Int)),some (.int ((j:Nat):Int))]/\Lq G' L6 pl fl sl ((i+1) % p.fr.length) (p.fr.set i none) (p.sr.set j (some {r with sh:=a})) (tf'.set i none) (p.ts.set j none) (jG p.fr)/\Mv [1,2] L L6 G G'/\G' u=some (.lst (ps.map V.int))/\Sk p G G',?_,λσ12 G12=>?_⟩
  ·obtain⟨us,hf,hul,_⟩:=q11.hf
   walk_at "wp"
   refine⟨us,hf,i,DH (by omega),q11.frame (j:=i) (r:=none) (o:=none) hf rfl,m11.trans (Mv.set hf (by rw[q11.l1.2.1];simp)),?_,k11.upd hL (by rw[hL.q.l1.2.1];decide)⟩
   rw[AE (λe=>by rw[e,q11.l1.2.1] at l11;cases l11)]
   exact u11
  rintro⟨rfl,q12,m12,u12,k12⟩
  obtain⟨ws,hs,hwl,hslo⟩:=q12.hs
  have hjw:j < p.ts.length:=by omega
  obtain⟨v,hv,⟨rfl,f1,f2,f3,f4,f5,f6⟩⟩:=hslo j (some {r with sh:=a}) none (EA hjl) (EA hjw)
  obtain⟨ls,g1,g2⟩:=id f3
  have f1:G12 a=some (.lst [.ref r.bx,.ref r.hd,oV none]):=f1
  walk_at "wp"
  have hlk:=Paired.length g2
  have q13:Lp G12 L6 pl fl sl (XF {p with h:=(i+1) % p.fr.length} i j {r with sh:=a}):=by
   have ht:=(hL.tw.hand (h:=(i+1) % p.fr.length)).out (i:=i) (j:=j) (r:={r with sh:=a}) λb hb=>YR (s:=p) hsj hb
   obtain⟨e1,e2,e3,_,_,_,e7,e8⟩:=oK (s:={p with h:=(i+1) % p.fr.length}) (i:=i) (j:=j) (r:={r with sh:=a})
   obtain⟨c1,c2⟩:=WR (j:=j) (hL.tw.hand (h:=(i+1) % p.fr.length))
   refine⟨?_,ht.1⟩
   rw[e7,e8,c1,c2,e1,e2,e3]
   show Lq G12 L6 pl fl sl ((i+1) % p.fr.length) (p.fr.set i none) (p.sr.set j (some {r with sh:=a})) (p.tf.map (cl j)) (p.ts.set j none) (jG (p.fr.set i none))
   have q14:=q12.free (tf':=p.tf.map (cl j)) (by rw[lA,BA,hG.tl]) λb s hb=>by
    have hbi:b≠i:=λe=>by
     rw[e,EA hil] at hb
     cases hb
    rw[qA,fA (Ne.symm hbi)]
    exact (htf b hbi).symm
   refine q14.twins λi2 j2 h2=>?_
   obtain⟨h3,h4⟩:=FI.mp h2
   have hii:i2≠i:=λe=>by
    rw[e] at h3
    exact h4 (YR hsj (hL.tw.back i j2 h3))
   unfold jG
   rw[qA,fA (Ne.symm hii)]
  refine⟨ws,xE.of hs,_,HE hv,a,rfl,_,xE.of f1,_,HE (j:=1) rfl,r.hd,rfl,ls,xE.of g1,r.ks,zO g2 (λ_ _ q=>q),okr.2.1,okr.2.2,λl us2 ks hl hks hpm hup t1 ht1 t ht=>?_⟩
  rw[PR okr.2.2 okr.2.1 hpm hup] at hks
  obtain⟨b1,c1⟩:=UF (o:=.lst us2) hl
  have q15:=q13.new (k:=5) (us:=us2) hl
  have m15:=m12.trans (Mv.new (k:=5) (o:=.lst us2) hl)
  obtain⟨b2,c2⟩:=UF (o:=.tup [V.int (j:Int),V.ref l]) ht1
  obtain⟨b3,c3⟩:=UF (o:=.tup [V.int (i:Int),V.ref u,V.ref t1]) ht
  have b23:=b2.trans b3
  exact q _ (lab L6 l 5) _ i ps (some (j,r)) t u (.ref t1) (.inr ⟨hnone,r,j,a,hsw,hri,hsj,hjl,rfl,rfl⟩) (q15.same b23) (m15.trans (Mv.of b23)) c3 (b23 _ _ (b1 _ _ u12)) ⟨t1,l,rfl,b3 _ _ c2,⟨us2,b23 _ _ c1,zO hks λ_ _ ⟨x,e,h⟩=>⟨x,e,b23 _ _ (b1 _ _ h)⟩⟩,FH⟩ (by rw[aH (NF u12 hl)];exact l11) ((k12.same hL b1).same hL b23)
theorem gS:∀{ds:List Dv} {n:Nat},(∀d∈ds,vF d<=n)->GE ds<=n
 |[],_,_=>by rw[GE];omega
 |d::ds,n,h=>by
  have:=gS (ds:=ds) (n:=n) λx hx=>h x (jA _ hx)
  have:=h d (wA ..)
  rw[GE]
  omega
theorem X1 {α:Type} {f:α->V} {xs:List α} {b:Bool}:vF (.seq b (xs.map λx=>.leaf (f x)))<=1:=by
 have:=gS (ds:=xs.map λx=>Dv.leaf (f x)) (n:=0) (λd hd=>by
  obtain⟨x,_,rfl⟩:=DB.mp hd
  rw[vF];omega)
 rw[vF]
 omega
theorem SN {ks:List (List Key)}:vF (uQ ks)<=2:=by
 have:=gS (ds:=ks.map QU) (n:=1) (λd hd=>by
  obtain⟨k,_,rfl⟩:=DB.mp hd
  exact X1)
 unfold uQ
 rw[vF]
 omega
theorem TN {r:Option Tr}:vF (LJ r)<=3:=by
 cases r with
 |none=>unfold LJ;rw[vF];omega
 |some r=>
  obtain⟨b,ks,o⟩:=r
  have h1:vF (dS b)<=1:=X1
  have h2:=SN (ks:=ks)
  have h3:vF (DO o)=0:=by cases o<;>(unfold DO;rw[vF])
  unfold LJ
  rw[vF,GE,GE,GE,GE,h3]
  omega
theorem UN {rows:List (Option Tr)}:vF (.seq false (rows.map LJ))<=4:=by
 have:=gS (ds:=rows.map LJ) (n:=3) (λd hd=>by
  obtain⟨k,_,rfl⟩:=DB.mp hd
  exact TN)
 rw[vF]
 omega
theorem QK.uq {ms:List Bool} {h i i':Nat} {ps ps':List Int} (a:QK ms h i ps) (b:QK ms h i' ps'):i=i'/\ps=ps':=by
 obtain⟨j,a1,a2,a3,a4,a5⟩:=a
 obtain⟨k,b1,b2,b3,b4,b5⟩:=b
 have:j=k:=by
  rcases (by omega:j < k\/j=k\/k < j) with h|h|h
  ·have:=b2 j h
   rcases a3 with z|z
   ·omega
   ·rw[z] at this;cases this
  ·exact h
  ·have:=a2 k h
   rcases b3 with z|z
   ·omega
   ·rw[z] at this;cases this
 subst this
 exact⟨by omega,by rw[a5,b5]⟩
noncomputable def oW (o:Option (Nat×Sh)):Option (Nat×List (List Key)):=o.map λx=>(x.1,JF x.2.ks)
theorem fJ.at {H:Hp} {L:Lb} {v:V} {o:Option (Nat×Sh)} (h:fJ H L v o):dG [] H v o:=by
 cases o with
 |none=>exact h
 |some x=>obtain⟨j,q⟩:=x;obtain⟨o,l,e,h1,h2,h3⟩:=h;exact⟨o,l,e,h1,h2,by simp⟩
theorem fJ.zv {S:List Nat} {H H':Hp} {L L':Lb} {v:V} {o:Option (Nat×Sh)} (h:fJ H L v o) (z:Zv S L L' H H') (h5:5∉S):fJ H' L' v o:=by
 cases o with
 |none=>exact h
 |some x=>
  obtain⟨j,q⟩:=x
  obtain⟨o,l,e,h1,⟨us,h2,h4⟩,h3⟩:=h
  obtain⟨y1,y2⟩:=z.lst h2 h3 (by decide) h5
  exact⟨o,l,e,z.tup h1,⟨us,y1,Paired.mapP h4 λ_ _ ⟨a,e,q⟩=>⟨a,e,z.tup q⟩⟩,y2⟩
noncomputable def xG:Option Sh->Option Sh->Prop
 |none,none=>True
 |some r,some w=>w.b=r.b/\w.ks.Perm r.ks
 |_,_=>False
structure eG (s p:St):Prop where
 fr:Paired xG s.fr p.fr
 sr:Paired xG s.sr p.sr
 tf:p.tf=s.tf
 ts:p.ts=s.ts
 h:p.h=s.h
theorem Y1 {a b:List (Option Sh)} (h:Paired xG a b):a.map Option.isNone=b.map Option.isNone:=by
 induction h with
 |nil=>rfl
 |@cons x y _ _ h t ih=>
  rw[CA,CA,ih]
  cases x<;>cases y<;>first|rfl|exact h.elim
theorem Z1 {a b:List (Option Sh)} {t:List (Option Nat)} (h:a.map Option.isNone=b.map Option.isNone):pG a t=pG b t:=by
 have e:∀l:List (Option Sh),pG l t=((l.map Option.isNone).zip t).findIdx? λp=>p.1&&p.2.isNone:=λl=>by
  unfold pG
  rw[List.zip_map_left,List.findIdx?_map]
  rfl
 rw[e,e,h]
theorem eG.emf {s p:St} (h:eG s p):pG p.fr p.tf=pG s.fr s.tf:=by rw[h.tf];exact (Z1 (Y1 h.fr)).symm
theorem eG.slot {s p:St} (h:eG s p) {i:Nat} {c:Option Nat}:ZE p i c=ZE s i c:=by
 unfold ZE
 rw[h.tf,h.ts,Z1 (Y1 h.sr).symm]
theorem eG.at {s p:St} (h:eG s p) {i:Nat} {r:Sh} (hr:s.fr[i]?=some (some r)):∃w,p.fr[i]?=some (some w)/\w.b=r.b/\w.ks.Perm r.ks:=by
 obtain⟨y,hy1,hy2⟩:=BI h.fr hr
 cases y with
 |none=>exact hy2.elim
 |some w=>exact⟨w,hy1,hy2⟩
theorem eG.ats {s p:St} (h:eG s p) {i:Nat} {r:Sh} (hr:s.sr[i]?=some (some r)):∃w,p.sr[i]?=some (some w)/\w.b=r.b/\w.ks.Perm r.ks:=by
 obtain⟨y,hy1,hy2⟩:=BI h.sr hr
 cases y with
 |none=>exact hy2.elim
 |some w=>exact⟨w,hy1,hy2⟩
noncomputable def SK:Option (Nat×Sh)->Option (Nat×Sh)->Prop
 |none,none=>True
 |some (j,q),some (j',q')=>j=j'/\q'.b=q.b/\q'.ks.Perm q.ks
 |_,_=>False
theorem eG.out {s p:St} (h:eG s p) (hT:Tw s) (hT':Tw p) {i j x:Nat} {q q':Sh} (hb:q'.b=q.b) (hk:q'.ks.Perm q.ks):eG (XF {s with h:=x} i j q) (XF {p with h:=x} i j q'):=by
 obtain⟨e1,e2,e3,_,_,_,e7,e8⟩:=oK (s:={s with h:=x}) (i:=i) (j:=j) (r:=q)
 obtain⟨d1,d2,d3,_,_,_,d7,d8⟩:=oK (s:={p with h:=x}) (i:=i) (j:=j) (r:=q')
 obtain⟨c1,c2⟩:=WR (j:=j) (hT.hand (h:=x))
 obtain⟨c3,c4⟩:=WR (j:=j) (hT'.hand (h:=x))
 refine⟨?_,?_,?_,?_,?_⟩
 ·rw[e1,d1];exact mK (show xG none none from trivial) i h.fr
 ·rw[e2,d2];exact mK (show xG (some q) (some q') from ⟨hb,hk⟩) j h.sr
 ·rw[e7,d7,c1,c3];show p.tf.map (cl j)=s.tf.map (cl j);rw[h.tf]
 ·rw[e8,d8,c2,c4];show p.ts.set j none=s.ts.set j none;rw[h.ts]
 ·rw[e3,d3]
theorem eG.ffr {s p s1 p1:St} {c c':Option Nat} {ms:List Bool} {i i':Nat} {ps ps':List Int} {out out':Option (Nat×Sh)} (h:eG s p) (hT:Tw s) (hT':Tw p) (a:wH s c ms s1 i ps out) (b:rK p c' ms p1 i' ps' out') (hc:∀i j,ZE s i c=some j->ZE s i c'=some j):i=i'/\ps=ps'/\eG s1 p1/\SK out out':=by
 rcases a with ⟨a1,rfl,rfl,rfl⟩|⟨a1,q,j,a2,a3,a4,a5,rfl,rfl⟩
 ·rcases b with ⟨b1,rfl,rfl,rfl⟩|⟨b1,_⟩
  ·rw[h.emf,a1] at b1
   exact⟨cA b1,rfl,h,trivial⟩
  ·rw[h.emf,a1] at b1;cases b1
 ·rcases b with ⟨b1,_⟩|⟨b1,q',j',x,b2,b3,b4,b5,rfl,rfl⟩
  ·rw[h.emf,a1] at b1;cases b1
  ·rw[h.h] at b2
   obtain⟨rfl,rfl⟩:=QK.uq a2 b2
   rw[h.slot,hc _ _ a4] at b4
   obtain rfl:j=j':=cA b4
   obtain⟨w,hw,e1,e2⟩:=h.at a3
   rw[b3] at hw
   obtain rfl:q'=w:=cA (cA hw)
   have hl:p.fr.length=s.fr.length:=(Paired.length h.fr).symm
   refine⟨rfl,rfl,?_,rfl,e1,e2⟩
   rw[hl]
   exact h.out hT hT' (q':={q' with sh:=x}) e1 e2
theorem eG.back {s1 p1:St} {i j:Nat} {q q':Sh} {out out':Option (Nat×Sh)} (h:eG s1 p1) (ho:SK out out') (hb:q'.b=q.b) (hk:q'.ks.Perm q.ks):eG (rF s1 i j q out) (rF p1 i j q' out'):=by
 obtain⟨e1,e2,e3,e4,e5,_⟩:=AN (s1:=s1) (i:=i) (j:=j) (c:=q) (out:=out)
 obtain⟨d1,d2,d3,d4,d5,_⟩:=AN (s1:=p1) (i:=i) (j:=j) (c:=q') (out:=out')
 have eo:out'.map (·.1)=out.map (·.1):=by
  cases out with
  |none=>cases out' with
   |none=>rfl
   |some _=>exact ho.elim
  |some x=>cases out' with
   |none=>exact ho.elim
   |some y=>obtain⟨a,b⟩:=x;obtain⟨c,d⟩:=y;obtain⟨rfl,_⟩:=ho;rfl
 rw[eo] at d2 d3 d4
 refine⟨?_,?_,?_,?_,?_⟩
 ·rw[e1,d1];exact mK (show xG (some q) (some q') from ⟨hb,hk⟩) i h.fr
 ·rw[e2,d2]
  split
  ·exact h.sr
  ·exact mK (show xG none none from trivial) j h.sr
 ·rw[e3,d3,h.tf]
 ·rw[e4,d4,h.ts]
 ·rw[e5,d5,h.h]
theorem eG.tw {s p:St} (h:eG s p) (t:Tw s):Tw p:=⟨by rw[h.tf,h.ts];exact t.there,by rw[h.tf,h.ts];exact t.back,λa b hab=>by
 rw[h.tf] at hab
 obtain⟨r,hr⟩:=t.full a b hab
 obtain⟨w,hw,_⟩:=h.at hr
 exact⟨w,hw⟩,λa b hab=>by
 rw[h.ts] at hab
 obtain⟨y,hy1,hy2⟩:=BI h.sr (t.bare a b hab)
 cases y with
 |none=>exact hy1
 |some w=>exact hy2.elim⟩
theorem rK.facts {p p1:St} {c:Option Nat} {ms:List Bool} {i:Nat} {ps:List Int} {out:Option (Nat×Sh)} (h:rK p c ms p1 i ps out) (hT:Tw p):p1.fr[i]?=some none/\p1.fr.length=p.fr.length/\p1.sr.length=p.sr.length/\(∀b,p1.tf[i]?≠some (some b))/\(∀j,out.map (·.1)≠some j->p1.sr[j]?=p.sr[j]?):=by
 rcases h with ⟨h1,rfl,_,rfl⟩|⟨h1,q,j,a,hsw,hq,hsf,hj,rfl,rfl⟩
 ·obtain⟨e1,e2⟩:=CO h1
  exact⟨e1,rfl,rfl,(λb z=>by rw[e2] at z;cases z),λ_ _=>rfl⟩
 ·obtain⟨e1,e2,_⟩:=oK (s:={p with h:=(i+1) % p.fr.length}) (i:=i) (j:=j) (r:={q with sh:=a})
  obtain⟨l1,l2⟩:=Z0 (s:={p with h:=(i+1) % p.fr.length}) (i:=i) (j:=j) (r:={q with sh:=a})
  obtain⟨t1,t2⟩:=(hT.hand (h:=(i+1) % p.fr.length)).out (r:={q with sh:=a}) (j:=j) λb hb=>YR (s:=p) hsf hb
  refine⟨?_,l1,l2,t2,λj2 hj2=>?_⟩
  ·rw[e1];exact EA (aA.mp hq).1
  ·rw[e2]
   show (p.sr.set j _)[j2]?=_
   rw[qA,fA (λe=>hj2 (by rw[<-e];rfl))]
theorem ZU {a b:List (List Key)} (h:a.Perm b) (ok:JJ b):JF a=JF b:=PR ok.2.2 ok.2.1 (DI.trans h) (BU (λx hx=>ok.2.2 x (h.mem_iff.mp hx)) (h.nodup_iff.mpr ok.2.1))
theorem JJ.pm {a b:List (List Key)} (h:a.Perm b) (ok:JJ b):JJ a:=⟨by rw[h.length_eq];exact ok.1,h.nodup_iff.mpr ok.2.1,λk hk=>ok.2.2 k (h.mem_iff.mp hk)⟩
theorem aV {s:St} {i j:Nat} {c:Option Nat} (h:ZE s i none=some j):ZE s i c=some j:=by
 unfold ZE at *
 cases e:s.tf[i]? with
 |none=>
  rw[e] at h
  cases e1:pG s.sr s.ts with
  |some _=>rw[e1] at h;exact h
  |none=>
   rw[e1] at h
   cases e2:CH s.tf with
   |some _=>rw[e2] at h;exact h
   |none=>rw[e2] at h;cases h
 |some u=>
  rw[e] at h
  cases u with
  |some _=>exact h
  |none=>
   cases e1:pG s.sr s.ts with
   |some _=>rw[e1] at h;exact h
   |none=>
    rw[e1] at h
    cases e2:CH s.tf with
    |some _=>rw[e2] at h;exact h
    |none=>rw[e2] at h;cases h
theorem eG.bof {s p:St} (h:eG s p) {i:Nat}:jG p.fr i=jG s.fr i:=by
 unfold jG
 cases e:s.fr[i]? with
 |none=>
  rw[oC (by rw[<-Paired.length h.fr];exact rC.mp e)]
 |some r=>
  obtain⟨y,hy1,hy2⟩:=BI h.fr e
  rw[hy1]
  cases r<;>cases y<;>first|rfl|exact hy2.elim|exact hy2.1
noncomputable def RT (H:Hp) (v:V):Option Tr->Prop
 |none=>v=.non
 |some (b,ks,o)=>∃a ba ha k0,v=.ref a/\H a=some (.lst [.ref ba,.ref ha,oV o])/\H ba=some (.lst (b.map V.int))/\VH H ha k0/\JJ k0/\JF k0=ks
theorem RT.same {H H':Hp} {v:V} {t:Option Tr} (h:RT H v t) (s:vE H H'):RT H' v t:=by
 cases t with
 |none=>exact h
 |some x=>
  obtain⟨b,ks,o⟩:=x
  obtain⟨a,ba,ha,k0,e,h1,h2,h3,h4⟩:=h
  exact⟨a,ba,ha,k0,e,s _ _ h1,s _ _ h2,h3.same s,h4⟩
noncomputable def VN (K:PySem.W.Frag):Sp:=λvs H Q _=>∃(fd rl:Addr) (us:List V) (rows:List (Option Tr)),vs=[.ref fd,.ref rl]/\H rl=some (.lst us)/\us.length=rows.length/\(∀(i:Nat) t,rows[i]?=some t->∃v,us[i]?=some v/\RT H v t)/\(∀r,some r∈rows->WM r)/\rows.length<=640/\SF H (.seq false (rows.map LJ)) (.ref fd)/\∀H',vE H H'->Q (.bl true) H'
theorem DQ (T:bG K mg A):XG P w K mg base "_law_told" 8 ["_law_found","_law_row"] [] (VN K):=by
 have A8:=p0 (P:=P) (w:=w) (base:=base) T 5
 refine T.E6.have qU (λvs H Q E z=>?_) ?_
 ·obtain⟨fd,rl,us,rows,rfl,_⟩:=z;rfl
 ·intro f cdv A' outer s H vs Q E hr z
  obtain⟨fd,rl,us,rows,rfl,hr9,hul,hP,ok,h64,hL,q⟩:=z
  have hz:=PySem.sizeLine_eq
  refine⟨_,(iF (xF (i:=2) qU.nd rfl (Or.inl rfl) (lH zE))
   (zF (GJ jB rfl (FJ (pE 1)) (KG (i:=3) qU.nd rfl (Or.inl rfl)) (ME (VF (BF bI (pE 3) wF (uE _)) (ME (qH (PJ PySem.F.plainAttrs_list PySem.F.slot_list_append PySem.F.type_list_append QJ (pE 2) (sE wF zE)))) (ME (qH (PJ PySem.F.plainAttrs_list PySem.F.slot_list_append PySem.F.type_list_append QJ (pE 2) (sE (mH (sE (IE eF (pE 3) EE (λ_ _=>rfl)) (sE (QF (PZ rfl) rfl T.Dc dD (sE (IE eF (pE 3) EE (λ_ _=>rfl)) zE)) (sE (IE eF (pE 3) EE (λ_ _=>rfl)) zE)))) zE)))))))
   (ME (KF (DG A8 (hr.mono (by decide)) nF (sE (pE 0) (sE (pE 2) zE))))))),?_⟩
  walk_at "wp"
  intro du hdu
  obtain⟨s1,g1⟩:=UF (o:=.lst []) hdu
  generalize upd H du _=H1 at *
  refine⟨λσ G=>∃v3 ys,σ=[some (.ref fd),some (.ref rl),some (.ref du),v3]/\vE H G/\G du=some (.lst ys)/\Paired (HI G [du]) ys rows,?_,λσ2 G2=>?_⟩
  ·walk_at "wp"
   refine⟨⟨_,xE.of (s1 _ _ hr9)⟩,rP (K:=K) (xs:=us) (λj σ G=>∃v3 ys,σ=[some (.ref fd),some (.ref rl),some (.ref du),v3]/\vE H G/\G du=some (.lst ys)/\Paired (HI G [du]) ys (rows.take j)) ⟨_,[],rfl,s1,g1,.nil⟩ (λj σ G _ ⟨_,_,_,e,_⟩=>xE.of (e _ _ hr9)) (λj v σ G hj=>?_) (λσ G=>?_)⟩
   ·rintro⟨v3,ys,rfl,s2,g2,hY⟩
    have hjl:=(aA.mp hj).1
    obtain⟨o,ho1⟩:∃o,rows[j]?=some o:=⟨_,bA (by omega)⟩
    obtain⟨v',hv',ho0⟩:=hP j o ho1
    rw[hj] at hv'
    obtain rfl:v=v':=cA hv'
    have ho2:=ho0.same s2
    have htk:rows.take (j+1)=rows.take j++[o]:=by rw[pB,ho1];rfl
    have hyl:=Paired.length hY
    rw[XA] at hyl
    have kp:∀{G9:Hp} {us9:List V},vE G G9->G9 du=some (.lst us9)->∀{ws9:List V},Paired (HI (upd G9 du (.lst ws9)) [du]) ys (rows.take j):=λ{G9 us9} s9 hd9 {ws9}=>Paired.mapP hY λ_ _ q=>q.keep (xs:=[du]) (λx hx=>⟨ys,by rw[kA.mp hx];exact g2⟩) (λc o hc hn _=>by rw[AE (λz=>hn (by simp[z]))];exact s9 _ _ hc)
    walk_at "wp"
    cases o with
    |none=>
     obtain rfl:v=.non:=ho2
     rw[iA rfl]
     refine⟨.inl ⟨rfl,_,xE.of g2⟩,ys,g2,by omega,pH s2 hdu,_,rfl,?_⟩
     rw[htk]
     exact dJ (kp sF g2) rfl
    |some r=>
     obtain⟨b,ks,tw⟩:=r
     obtain⟨t0,bl,hl,k0,rfl,d1,d2,⟨ls,d3,d3b⟩,⟨o1,o2,o3⟩,rfl⟩:=id ho2
     have hll:=Paired.length d3b
     rw[fA (λz=>nomatch z)]
     have hbl:bl≠du:=λe=>by
      obtain⟨t9,bl9,hl9,_,e9,q1,q2,_⟩:=ho0
      cases e9
      have q1':=s2 _ _ q1
      rw[d1] at q1'
      cases q1'
      rw[e,hdu] at q2;cases q2
     refine⟨.inl ⟨rfl,_,xE.of g2⟩,t0,rfl,_,xE.of d1,.ref bl,HE (j:=0) rfl,t0,rfl,_,xE.of d1,.ref hl,HE (j:=1) rfl,hl,rfl,ls,xE.of d3,k0,zO d3b (λ_ _ q=>q),o2,o3,λl3 us3 ks3 hl3 hk3 hp3 hu3=>?_⟩
     rw[PR o3 o2 hp3 hu3] at hk3
     obtain⟨a3,b3⟩:=UF (o:=.lst us3) hl3
     generalize upd G l3 _=J3 at *
     refine⟨t0,rfl,_,xE.of (a3 _ _ d1),oV tw,HE (j:=2) rfl,λp4 hp4=>?_⟩
     obtain⟨a4,b4⟩:=UF (o:=.tup [V.ref bl,V.ref l3,oV tw]) hp4
     generalize upd J3 p4 _=J4 at *
     have s34:=a3.trans a4
     have hdJ:=s34 _ _ g2
     have n3:l3≠du:=(NF g2 hl3).symm
     refine⟨ys,hdJ,by omega,pH (s2.trans s34) hdu,_,rfl,?_⟩
     rw[htk]
     have hw:HI J4 [du] (.ref p4) (some (b,JF k0,tw)):=⟨p4,bl,l3,rfl,b4,s34 _ _ d2,⟨us3,a4 _ _ b3,zO hk3 λ_ _ ⟨a,e,q⟩=>⟨a,e,s34 _ _ q⟩⟩,by simpa using hbl,by simpa using n3⟩
     exact dJ (kp s34 hdJ) (hw.keep (xs:=[du]) (λx hx=>⟨ys,by rw[kA.mp hx];exact hdJ⟩) (λc o hc hn _=>by rw[AE (λz=>hn (by simp[z]))];exact hc))
   ·rintro⟨v3,ys,rfl,s2,g2,hY⟩
    rw[hul,mB] at hY
    exact⟨v3,rfl,s2,ys,g2,hY⟩
  rintro⟨v3,ys,rfl,s2,g2,hY⟩
  walk_at "wp"
  refine⟨_,_,_,rfl,hL.same s2,?_,EB UN (by decide),λG3 s3=>q G3 (s2.trans s3)⟩
  unfold SF
  exact⟨du,ys,rfl,g2,by rw[lA];omega,RU hY ok⟩
structure Cx (A:mI) (H:Hp) (z:Ss) (s:St) (L:Lb) (pl fl sl:Addr) (p:St):Prop where
 ss:yE A.Aa A.Ad A.Ac H z s
 ap:Ap s
 tw:Tw s
 bx:Bx s
 l0:∀c∈z.four,L c=0
 lb:∀r,some r∈s.fr\/some r∈s.sr->L r.bx=0
 lp:Lp H L pl fl sl p
 si:eG s p
 ok:∀r,some r∈s.fr\/some r∈s.sr->cJ r/\r.ks≠[]/\r.b.length<=640
section
variable {A:mI} {H H':Hp} {z:Ss} {s s':St} {L L':Lb} {pl fl sl:Addr} {p p':St}
structure Cs (A:mI) (H:Hp) (z:Ss) (s:St) (L:Lb):Prop where
 ss:yE A.Aa A.Ad A.Ac H z s
 l0:∀c∈z.four,L c=0
 lb:∀r,some r∈s.fr\/some r∈s.sr->L r.bx=0
theorem Cx.cs (h:Cx A H z s L pl fl sl p):Cs A H z s L:=⟨h.ss,h.l0,h.lb⟩
theorem Cs.mv {N:List Nat} (h:Cs A H z s L) (m:Mv N L L' H H') (l:Lv L H) (h0:0∉N):Cs A H' z s L':=by
 refine⟨h.ss.mv m l h0 h.l0 h.lb,λc hc=>?_,λr hr=>?_⟩
 ·obtain⟨us,e⟩:=h.ss.fours c hc
  rw[m.lx.at e];exact h.l0 c hc
 ·rw[m.lx.at (h.ss.bxl hr)];exact h.lb r hr
theorem Cx.law {N:List Nat} (h:Cx A H z s L pl fl sl p) (m:Mv N L L' H H') (h0:0∉N) (l:Lp H' L' pl fl sl p') (e:eG s p'):Cx A H' z s L' pl fl sl p':=
 let c:=h.cs.mv m h.lp.q.lv h0;⟨c.ss,h.ap,h.tw,h.bx,c.l0,c.lb,l,e,h.ok⟩
theorem Cx.same (h:Cx A H z s L pl fl sl p) (e:vE H H'):Cx A H' z s L pl fl sl p:=⟨h.ss.same e,h.ap,h.tw,h.bx,h.l0,h.lb,h.lp.same e,h.si,h.ok⟩
theorem Cx.new (h:Cx A H z s L pl fl sl p) {a:Addr} {k:Nat} {us:List V} (ha:H a=none):Cx A (upd H a (.lst us)) z s (Pf.lab L a k) pl fl sl p:=h.law (N:=[]) (Mv.new ha) (by simp) (h.lp.new ha) h.si
theorem Cx.lab (h:Cx A H z s L pl fl sl p) {a:Addr} {k:Nat} {us:List V} (e:vE H H') (ha:H a=none) (g:H' a=some (.lst us)):Cx A H' z s (Pf.lab L a k) pl fl sl p:=h.law (N:=[]) (Mv.lab e ha) (by simp) (h.lp.lab e ha g) h.si
theorem Cx.set (h:Cx A H z s L pl fl sl p) {a:Addr} {us us':List V} (ha:H a=some (.lst us)) (hl:4 < L a):Cx A (upd H a (.lst us')) z s L pl fl sl p:=by
 have m:Mv [L a] L L H (upd H a (.lst us')):=Mv.set ha (kA.mpr rfl)
 have h0:0∉[L a]:=by simp;omega
 refine h.law m h0 ?_ h.si
 exact⟨h.lp.q.zs (m.zv h.lp.q.lv h0) (λk hk=>by rw[kA.mp hk];exact hl) h.lp.q.lv.set,h.lp.tw⟩
theorem Cx.okf (h:Cx A H z s L pl fl sl p):∀r,some r∈p.fr->JJ r.ks/\r.ks≠[]:=λw hw=>by
 obtain⟨i,hi⟩:=dB.mp hw
 obtain⟨r,hr,hr2⟩:=BJ h.si.fr hi
 cases r with
 |none=>exact hr2.elim
 |some r=>
  obtain⟨o1,o2,_⟩:=h.ok r (.inl (dA hr))
  exact⟨JJ.pm hr2.2 o1,λe=>o2 (by have:=hr2.2;rw[e] at this;exact this.nil_eq.symm)⟩
theorem Cx.len (h:Cx A H z s L pl fl sl p):p.fr.length=s.fr.length/\p.sr.length=s.sr.length:=⟨(Paired.length h.si.fr).symm,(Paired.length h.si.sr).symm⟩
theorem cJ.ms {r:Sh} (h:cJ r):(JF r.ks).length<=640/\∀k∈JF r.ks,k.length<=640:=by
 obtain⟨h1,h2,h3⟩:=h
 refine⟨by rw[DI.length_eq];omega,λk hk=>?_⟩
 obtain⟨s,a,b,rfl⟩:=h3 k (DI.mem_iff.mp hk)
 show 3<=640
 decide
theorem Cx.oks (h:Cx A H z s L pl fl sl p):aM s.fr/\aM s.sr:=⟨λr hr=>let ⟨a,_,c⟩:=h.ok r (.inl hr);⟨a,c,a.ms⟩,λr hr=>let ⟨a,_,c⟩:=h.ok r (.inr hr);⟨a,c,a.ms⟩⟩
theorem Cx.tf (h:Cx A H z s L pl fl sl p):∃us,H fl=some (.lst us)/\us.length=(tF s).length/\∀(i:Nat) t,(tF s)[i]?=some t->∃v,us[i]?=some v/\RT H v t:=by
 obtain⟨us,h1,h2,h3⟩:=h.lp.q.hf
 have hln:=h.lp.q.ln
 have hl:=h.len
 have hs:=h.ss.lens
 refine⟨us,h1,by unfold tF;rw[aC];omega,λi t ht=>?_⟩
 unfold tF at ht
 rw[KC] at ht
 cases e1:s.fr[i]? with
 |none=>rw[e1] at ht;cases ht
 |some r=>
  cases e2:s.tf[i]? with
  |none=>rw[e1,e2] at ht;cases ht
  |some o=>
   rw[e1,e2] at ht
   obtain rfl:cS r o=t:=cA ht
   obtain⟨y,hy1,hy2⟩:=BI h.si.fr e1
   obtain⟨v,hv,hf⟩:=h3 i y o hy1 (by rw[h.si.tf];exact e2)
   refine⟨v,hv,?_⟩
   cases r with
   |none=>
    cases y with
    |none=>exact hf
    |some w=>exact hy2.elim
   |some r=>
    cases y with
    |none=>exact hy2.elim
    |some w=>
     obtain⟨e,f1,f2,f3,_⟩:=hf
     have ok:=(h.ok r (.inl (dA e1))).1
     exact⟨w.sh,w.bx,w.hd,w.ks,e,f1,by rw[<-hy2.1];exact f2,f3,JJ.pm hy2.2 ok,ZU hy2.2 ok⟩
theorem Cx.ts (h:Cx A H z s L pl fl sl p):∃us,H sl=some (.lst us)/\us.length=(tS s).length/\∀(i:Nat) t,(tS s)[i]?=some t->∃v,us[i]?=some v/\RT H v t:=by
 obtain⟨us,h1,h2,h3⟩:=h.lp.q.hs
 have hln:=h.lp.q.ln
 have hl:=h.len
 have hs:=h.ss.lens
 refine⟨us,h1,by unfold tS;rw[aC];omega,λi t ht=>?_⟩
 unfold tS at ht
 rw[KC] at ht
 cases e1:s.sr[i]? with
 |none=>rw[e1] at ht;cases ht
 |some r=>
  cases e2:s.ts[i]? with
  |none=>rw[e1,e2] at ht;cases ht
  |some o=>
   rw[e1,e2] at ht
   obtain rfl:tQ s.fr r o=t:=cA ht
   obtain⟨y,hy1,hy2⟩:=BI h.si.sr e1
   obtain⟨v,hv,hf⟩:=h3 i y o hy1 (by rw[h.si.ts];exact e2)
   refine⟨v,hv,?_⟩
   cases r with
   |none=>
    cases y with
    |some w=>exact hy2.elim
    |none=>
     cases o with
     |none=>exact hf
     |some k=>
      obtain⟨a,ba,ha,e,f1,f2,f3,_⟩:=hf
      exact⟨a,ba,ha,[],e,f1,by rw[<-h.si.bof];exact f2,⟨[],f3,.nil⟩,⟨by decide,lC,λk hk=>by cases hk⟩,rfl⟩
   |some r=>
    cases y with
    |none=>exact hy2.elim
    |some w=>
     obtain⟨e,f1,f2,f3,_⟩:=hf
     have ok:=(h.ok r (.inr (dA e1))).1
     exact⟨w.sh,w.bx,w.hd,w.ks,e,f1,by rw[<-hy2.1];exact f2,f3,JJ.pm hy2.2 ok,ZU hy2.2 ok⟩
theorem Cx.zv (h:Cx A H z s L pl fl sl p) {k:Ks z H H'} (h':yE A.Aa A.Ad A.Ac H' z s'):Zv [] L L H H':=Zv.ks h.ss h' k.kd h.l0 h.lp.q.lv (k.dm h.ss h')
end
theorem SK.ow {o o':Option (Nat×Sh)} (h:SK o o') (ok:∀j q,o=some (j,q)->cJ q):oW o'=oW o:=by
 cases o with
 |none=>cases o' with
  |none=>rfl
  |some _=>exact h.elim
 |some x=>cases o' with
  |none=>exact h.elim
  |some y=>
   obtain⟨a,b⟩:=x
   obtain⟨c,d⟩:=y
   obtain⟨rfl,_,hp⟩:=h
   show some (a,JF d.ks)=some (a,JF b.ks)
   rw[ZU hp (ok a b rfl)]
theorem rK.hd {p p1:St} {c:Option Nat} {ms:List Bool} {i:Nat} {ps:List Int} {out:Option (Nat×Sh)} (h:rK p c ms p1 i ps out) (hn:∀j q,out=some (j,q)->p.sr[j]?=some none):(GI p1).Perm (GI p):=by
 rcases h with ⟨h1,rfl,_,rfl⟩|⟨h1,q,j,a,hsw,hq,hsf,hj,rfl,rfl⟩
 ·exact rB _
 ·obtain⟨e1,e2,_⟩:=oK (s:={p with h:=(i+1) % p.fr.length}) (i:=i) (j:=j) (r:={q with sh:=a})
  unfold GI
  rw[e1,e2,jH,jH]
  refine ((rB _).append (nK (hn j q rfl))).trans ?_
  exact YA.trans ((WL hq).symm.append_right _)
theorem Lp.ks {H:Hp} {L:Lb} {pl fl sl:Addr} {p:St} {f:Bool} {j:Nat} {w:Sh} {ks':List (List Key)} {us':List V} (h:Lp H L pl fl sl p) (hA:Ap p) (hw:(p.rw f)[j]?=some (some w)) (nk:w.ks≠[]) (ht:Paired (λv k=>∃a,v=V.ref a/\H a=some (.tup (k.map kV))) us' ks'):Lp (upd H w.hd (.lst us')) L pl fl sl (p.put f j (some {w with ks:=ks'})):=by
 have q:=h.q
 obtain⟨us,h1,h2,h3⟩:=q.hf
 obtain⟨ws,g1,g2,g3⟩:=q.hs
 obtain⟨l1,l2,l3⟩:=q.l1
 obtain⟨vs,w0,wp,l4⟩:∃vs,H w.hd=some (.lst vs)/\vs≠[]/\L w.hd=4:=by
  have go:VH H w.hd w.ks->L w.hd=4->∃vs,H w.hd=some (.lst vs)/\vs≠[]/\L w.hd=4:=λ⟨vs,a,b⟩ c=>⟨vs,a,λe=>by
   rw[e] at b
   generalize w.ks=ks at *
   cases b
   exact nk rfl,c⟩
  cases f with
  |true=>
   have hj:=(aA.mp (show p.fr[j]?=some (some w) from hw)).1
   obtain⟨v,e,f⟩:=h3 j _ _ hw (bA (by have:=q.ln.1;omega))
   exact go f.2.2.2.1 f.2.2.2.2.2.2
  |false=>
   obtain⟨_,_,_,_,f⟩:=h.slot (show p.sr[j]?=some (some w) from hw)
   exact go f.2.2.2.1 f.2.2.2.2.2.2
 have kt:∀c us,H c=some (.tup us)->upd H w.hd (.lst us') c=some (.tup us):=λc us hc=>by rw[AE (qG hc w0 (λz=>nomatch z))];exact hc
 have kl:∀{c o},H c=some o->L c≠4->upd H w.hd (.lst us') c=some o:=λhc hn=>by rw[AE (λe=>hn (by rw[e];exact l4))];exact hc
 have tw:VH (upd H w.hd (.lst us')) w.hd ks':=⟨us',bF,Paired.mapP ht λ_ _ ⟨a,e,q⟩=>⟨a,e,kt _ _ q⟩⟩
 have k1:∀{v r o},RF H L v (some r) o->r.hd≠w.hd->RF (upd H w.hd (.lst us')) L v (some r) o:=λ⟨e,x1,x2,x3,y1,y2,y3⟩ hn=>⟨e,kl x1 (by rw[y1];decide),kl x2 (by rw[y2];decide),x3.to (λus hu=>by rw[AE hn];exact hu) kt,y1,y2,y3⟩
 have k2:∀{v o},RF H L v (some w) o->RF (upd H w.hd (.lst us')) L v (some {w with ks:=ks'}) o:=λ⟨e,x1,x2,x3,y1,y2,y3⟩=>⟨e,kl x1 (by rw[y1];decide),kl x2 (by rw[y2];decide),tw,y1,y2,y3⟩
 have k3:∀{v B i},RS H L B v none (some i)->RS (upd H w.hd (.lst us')) L B v none (some i):=λ⟨a,ba,ha,e,x1,x2,x3,y1,y2,y3⟩=>⟨a,ba,ha,e,kl x1 (by rw[y1];decide),kl x2 (by rw[y2];decide),by
  rw[AE (λe=>wp (by rw[e,w0] at x3;exact HO.lst.inj (cA x3)))];exact x3,y1,y2,y3⟩
 have eb:∀x,jG (p.fr.set j (some {w with ks:=ks'})) x=(if f=true then jG p.fr x else jG (p.fr.set j (some {w with ks:=ks'})) x):=λx=>by
  cases f with
  |false=>rfl
  |true=>
   have hw:p.fr[j]?=some (some w):=hw
   show _=jG p.fr x
   unfold jG
   rw[qA]
   by_cases c:j=x
   ·subst c
    rw[iA rfl,iA (aA.mp hw).1,hw]
   ·rw[fA c]
 have hdn:∀(f':Bool) (x:Nat) (r:Sh),(p.rw f')[x]?=some (some r)->¬(f'=f/\x=j)->r.hd≠w.hd:=λf' x r hr hn=>by
  unfold Ap at hA
  rw[jH] at hA
  obtain⟨m1,m2,m3⟩:=fB.mp hA
  cases f with
  |true=>
   cases f' with
   |true=>exact oQ m1 hw hr λe=>hn ⟨rfl,e⟩
   |false=>exact λe=>m3 w.hd (nJ.mpr ⟨w,dA hw,rfl⟩) r.hd (nJ.mpr ⟨r,dA hr,rfl⟩) e.symm
  |false=>
   cases f' with
   |true=>exact λe=>m3 r.hd (nJ.mpr ⟨r,dA hr,rfl⟩) w.hd (nJ.mpr ⟨w,dA hw,rfl⟩) e
   |false=>exact oQ m2 hw hr λe=>hn ⟨rfl,e⟩
 have fF:∀(i:Nat) r o,(p.put f j (some {w with ks:=ks'})).fr[i]?=some r->p.tf[i]?=some o->∃v,us[i]?=some v/\RF (upd H w.hd (.lst us')) L v r o:=λi r o hr ho=>by
  have TH:p.fr[i]?=some r->¬(true=f/\i=j)->∃v,us[i]?=some v/\RF (upd H w.hd (.lst us')) L v r o:=λhr hn=>by
   obtain⟨v,e,x⟩:=h3 i r o hr ho
   refine⟨v,e,?_⟩
   cases r with
   |none=>exact x
   |some r=>exact k1 x (hdn true i r hr hn)
  cases f with
  |false=>exact TH hr (λz=>by cases z.1)
  |true=>
   have hr:(p.fr.set j (some {w with ks:=ks'}))[i]?=some r:=hr
   have hw:p.fr[j]?=some (some w):=hw
   rw[qA] at hr
   by_cases c:j=i
   ·subst c
    rw[iA rfl,iA (aA.mp hw).1] at hr
    obtain rfl:=cA hr
    obtain⟨v,e,x⟩:=h3 j _ o hw ho
    exact⟨v,e,k2 x⟩
   ·rw[fA c] at hr
    exact TH hr λz=>c z.2.symm
 have fS:∀(i:Nat) r o,(p.put f j (some {w with ks:=ks'})).sr[i]?=some r->p.ts[i]?=some o->∃v,ws[i]?=some v/\RS (upd H w.hd (.lst us')) L (jG p.fr) v r o:=λi r o hr ho=>by
  have TH:p.sr[i]?=some r->¬(false=f/\i=j)->∃v,ws[i]?=some v/\RS (upd H w.hd (.lst us')) L (jG p.fr) v r o:=λhr hn=>by
   obtain⟨v,e,x⟩:=g3 i r o hr ho
   refine⟨v,e,?_⟩
   cases r with
   |some r=>exact k1 (o:=none) x (hdn false i r hr hn)
   |none=>
    cases o with
    |none=>exact x
    |some _=>exact k3 x
  cases f with
  |true=>exact TH hr (λz=>by cases z.1)
  |false=>
   have hr:(p.sr.set j (some {w with ks:=ks'}))[i]?=some r:=hr
   have hw:p.sr[j]?=some (some w):=hw
   rw[qA] at hr
   by_cases c:j=i
   ·subst c
    rw[iA rfl,iA (aA.mp hw).1] at hr
    obtain rfl:=cA hr
    obtain⟨v,e,x⟩:=g3 j _ o hw ho
    exact⟨v,e,k2 (o:=none) x⟩
   ·rw[fA c] at hr
    exact TH hr λz=>c z.2.symm
 have lnp:∀f',((p.put f j (some {w with ks:=ks'})).rw f').length=(p.rw f').length:=λf'=>by cases f<;>cases f'<;>first|rfl|exact BA
 have lt:=lnp true
 have lf:=lnp false
 refine⟨⟨?_,⟨us,kl h1 (by rw[l2];decide),h2.trans lt.symm,?_⟩,⟨ws,kl g1 (by rw[l3];decide),g2.trans lf.symm,?_⟩,q.l1,q.ne,?_,q.lv.set⟩,h.tw.put hw⟩
 ·have:(p.put f j (some {w with ks:=ks'})).h=p.h:=by cases f<;>rfl
  rw[this];exact kl q.hp (by rw[l1];decide)
 ·have:(p.put f j (some {w with ks:=ks'})).tf=p.tf:=by cases f<;>rfl
  rw[this];exact fF
 ·have:(p.put f j (some {w with ks:=ks'})).ts=p.ts:=by cases f<;>rfl
  rw[this]
  have e:jG (p.put f j (some {w with ks:=ks'})).fr=jG p.fr:=by
   cases f with
   |false=>rfl
   |true=>funext x;exact (eb x).trans rfl
  rw[e];exact fS
 ·have e1:(p.put f j (some {w with ks:=ks'})).tf=p.tf:=by cases f<;>rfl
  have e2:(p.put f j (some {w with ks:=ks'})).ts=p.ts:=by cases f<;>rfl
  rw[e1,e2]
  exact⟨q.ln.1.trans lt.symm,q.ln.2.trans lf.symm⟩
noncomputable def DJ (K:PySem.W.Frag) (G:Hp) (L:Lb) (a:Addr) (xs:List V):Prop:=(G a=some (.lst xs)/\L a=5)\/(∃o,G a=some (.frz o (.lst xs)))\/∀G',xE K G' a xs
theorem DJ.sq {K:PySem.W.Frag} {G:Hp} {L:Lb} {a:Addr} {xs:List V} (h:DJ K G L a xs):xE K G a xs:=by
 rcases h with h|h|h
 ·exact xE.of h.1
 ·exact .inl (.inr h)
 ·exact h G
theorem DJ.zv {K:PySem.W.Frag} {S:List Nat} {G G':Hp} {L L':Lb} {a:Addr} {xs:List V} (h:DJ K G L a xs) (z:Zv S L L' G G') (h5:5∉S):DJ K G' L' a xs:=by
 rcases h with h|⟨o,h⟩|h
 ·exact .inl (z.lst h.1 h.2 (by decide) h5)
 ·exact .inr (.inl ⟨o,z.kz _ _ h (.inl ⟨_,.inr ⟨_,rfl⟩⟩)⟩)
 ·exact .inr (.inr h)
theorem DJ.of {K:PySem.W.Frag} {G:Hp} {a:Addr} {xs:List V} (h:xE K G a xs):∃L,DJ K G L a xs/\Lv L G/\∀c,L c=0\/L c=5:=by
 have z:Lv (λ_=>0) G:=λc hc=>absurd rfl hc
 rcases h with (h|h)|h
 ·refine⟨lab (λ_=>0) a 5,.inl ⟨h,FH⟩,z.lab sF h,λc=>?_⟩
  by_cases e:c=a
  ·rw[e];exact .inr FH
  ·rw[aH e];exact .inl rfl
 ·exact⟨λ_=>0,.inr (.inl h),z,λ_=>.inl rfl⟩
 ·exact⟨λ_=>0,.inr (.inr λ_=>.inr h),z,λ_=>.inl rfl⟩
theorem Lp.hdl {H:Hp} {L:Lb} {pl fl sl:Addr} {p:St} (h:Lp H L pl fl sl p) {a:Addr} (ha:a∈GI p):∃us,H a=some (.lst us):=by
 obtain⟨r,hr,rfl⟩:=nJ.mp ha
 rcases GA.mp hr with hr|hr
 ·obtain⟨i,hi⟩:=dB.mp hr
  have hl:=(aA.mp hi).1
  obtain⟨us,_,_,h3⟩:=h.q.hf
  obtain⟨_,_,_,_,_,⟨vs,e,_⟩,_⟩:=h3 i _ _ hi (bA (by have:=h.q.ln.1;omega))
  exact⟨vs,e⟩
 ·obtain⟨i,hi⟩:=dB.mp hr
  obtain⟨_,_,_,_,_,_,_,⟨vs,e,_⟩,_⟩:=h.slot hi
  exact⟨vs,e⟩
noncomputable def iS (H:Hp) (L:Lb) (p:St) (f:Bool) (j:Nat) (v:V):Prop:=match f with
 |true=>∃r o,p.fr[j]?=some r/\p.tf[j]?=some o/\RF H L v r o
 |false=>∃r o,p.sr[j]?=some r/\p.ts[j]?=some o/\RS H L (jG p.fr) v r o
noncomputable def sp_at:Sp:=λvs H Q _=>∃(pl fl sl t:Addr) (L:Lb) (p:St) (f:Bool) (j:Nat),vs=[.ref pl,.ref t]/\Lp H L pl fl sl p/\H t=some (.tup [.str (BH f),.int (j:Int)])/\j < (p.rw f).length/\∀v,iS H L p f j v->Q v H
theorem EQ (T:bG K mg A):XG P w K mg base "_law_at" 1 ["_law_plain","_law_spot"] [] sp_at:=by
 refine T.F6.have Z9 (λvs H Q E z=>?_) ?_
 ·obtain⟨pl,fl,sl,t,L,p,f,j,rfl,_⟩:=z;rfl
 ·intro f cdv A' outer s H vs Q E hr z
  obtain⟨pl,fl,sl,t,L,p,f,j,rfl,hL,ht,hj,q⟩:=z
  refine⟨_,(iF (VF (BF OI (IE CG (pE 1) EE (λ_ _=>rfl)) ZH (uE _)) (ME (KF (IE eF (IE eF (pE 0) EE (λ_ _=>rfl)) (IE CG (pE 1) EE (λ_ _=>rfl)) (λ_ _=>rfl)))) mG)
   (ME (KF (IE eF (IE eF (pE 0) EE (λ_ _=>rfl)) (IE CG (pE 1) EE (λ_ _=>rfl)) (λ_ _=>rfl))))),?_⟩
  walk_at "wp"
  obtain⟨us,h1,h2,h3⟩:=hL.q.hf
  obtain⟨ws,g1,g2,g3⟩:=hL.q.hs
  obtain⟨n1,n2⟩:=hL.q.ln
  refine⟨_,oF.of ht,_,rfl,rfl,?_⟩
  cases f with
  |true=>
   rw[iA (show V.str (BH true)=V.str (Str.ofString "frame") from rfl)]
   have hj:j < p.fr.length:=hj
   obtain⟨v,hv1,hv2⟩:=h3 j _ _ (bA hj) (bA (by omega))
   exact⟨_,xE.of hL.q.hp,_,HE (j:=0) rfl,_,oF.of ht,_,rfl,fl,rfl,_,j,rfl,xE.of h1,v,HE hv1,q v ⟨_,_,bA hj,bA (by omega),hv2⟩⟩
  |false=>
   rw[fA (by decide+kernel)]
   have hj:j < p.sr.length:=hj
   obtain⟨v,hv1,hv2⟩:=g3 j _ _ (bA hj) (bA (by omega))
   exact⟨_,xE.of hL.q.hp,_,HE (j:=1) rfl,_,oF.of ht,_,rfl,sl,rfl,_,j,rfl,xE.of g1,v,HE hv1,q v ⟨_,_,bA hj,bA (by omega),hv2⟩⟩
theorem bV {α:Type} {l:List α} {j:Nat} {x:α} (h:l[j]?=some x):l.set j x=l:=by
 obtain⟨h1,h2⟩:=aA.mp h
 rw[<-h2]
 exact yB h1
theorem K2 {fr:List (Option Sh)} {i j:Nat} {r:Option Sh} (h:i≠j):jG (fr.set j r) i=jG fr i:=by unfold jG;rw[qA,fA (Ne.symm h)]
theorem cV {n j:Nat} (h:j < n):OJ n (j:Int)=some j:=by unfold OJ;rw[iA (by omega),iA (by omega)];rfl
noncomputable def sp_gone:Sp:=λvs H Q _=>∃(pl fl sl t:Addr) (L:Lb) (p:St) (f:Bool) (j:Nat) (r:Sh),vs=[.ref pl,.ref t]/\Lp H L pl fl sl p/\H t=some (.tup [.str (BH f),.int (j:Int)])/\(p.rw f)[j]?=some (some r)/\∀H',Lp H' L pl fl sl (LF p f j)->Mv [1] L L H H'->Q .non H'
theorem WN (T:bG K mg A):XG P w K mg base "_law_gone" 2 ["_law_plain","_law_spot"] [] sp_gone:=by
 have Cm:=EQ (P:=P) (w:=w) (base:=base) T
 refine T.E7.have ZZ (λvs H Q E z=>?_) ?_
 ·obtain⟨pl,fl,sl,t,L,p,f,j,r,rfl,_⟩:=z;rfl
 ·intro f cdv A' outer s H vs Q E hr z
  obtain⟨pl,fl,sl,t,L,p,f,j,r,rfl,hL,ht,hj,q⟩:=z
  refine⟨_,(iF (xF (i:=2) ZZ.nd rfl (Or.inl rfl) (DG Cm (hr.mono (by decide)) nF (sE (pE 0) (sE (pE 1) zE))))
   (ME (VF (BF OI (IE CG (pE 1) EE (λ_ _=>rfl)) ZH (uE _)) (ME (IH wF (GH (IE eF (pE 0) EE (λ_ _=>rfl)) (IE CG (pE 1) EE (λ_ _=>rfl)) JH))) (iF (IH wF (GH (IE eF (pE 0) EE (λ_ _=>rfl)) (IE CG (pE 1) EE (λ_ _=>rfl)) JH))
   (ME (VF (BF cI (IE eF (pE 2) EE (λ_ _=>rfl)) wF (uE _)) (ME (IH wF (GH (IE eF (pE 0) EE (λ_ _=>rfl)) (IE eF (pE 2) EE (λ_ _=>rfl)) JH))) mG)))))),?_⟩
  unfold sp_at
  walk_at "wp"
  obtain⟨us,h1,h2,h3⟩:=hL.q.hf
  obtain⟨ws,g1,g2,g3⟩:=hL.q.hs
  obtain⟨n1,n2⟩:=hL.q.ln
  obtain⟨l1,l2,l3⟩:=hL.q.l1
  have hjl:=(aA.mp hj).1
  refine⟨fl,sl,L,p,hL,f,j,ht,hjl,λv hv=>⟨_,oF.of ht,_,rfl,rfl,?_⟩⟩
  cases f with
  |false=>
   rw[iA (show V.str (BH false)=V.str (Str.ofString "slot") from rfl)]
   have hj:p.sr[j]?=some (some r):=hj
   have hjl:j < p.sr.length:=hjl
   have hts:p.ts[j]?=some none:=by
    cases e:p.ts[j]? with
    |none=>exact absurd (rC.mp e) (by omega)
    |some o=>cases o with
     |none=>rfl
     |some i=>have:=hL.tw.bare i j e;rw[hj] at this;cases this
   refine⟨_,xE.of hL.q.hp,_,HE (j:=1) rfl,_,oF.of ht,_,rfl,sl,rfl,ws,j,rfl,g1,j,cV (by omega),q _ ⟨?_,hL.tw.empt (f:=false) hj⟩ (Mv.set g1 (by rw[l3];simp))⟩
   have:=hL.q.slot g1 (j:=j) (v:=.non) (r:=none) (o:=none) rfl
   rw[bV hts] at this
   exact this
  |true=>
   rw[fA (by decide+kernel)]
   have hj:p.fr[j]?=some (some r):=hj
   have hjl:j < p.fr.length:=hjl
   obtain⟨r',o,hr',ho,hRF⟩:=hv
   rw[hj] at hr'
   obtain rfl:some r=r':=cA hr'
   obtain⟨rfl,f1,f2,f3,f4,f5,f6⟩:=id hRF
   have q1:=hL.q.frame h1 (j:=j) (v:=.non) (r:=none) (o:=none) rfl
   have mv1:Mv [1] L L H (upd H fl (.lst (us.set j .non))):=Mv.set h1 (by rw[l2];simp)
   have f1':upd H fl (.lst (us.set j .non)) r.sh=some (.lst [.ref r.bx,.ref r.hd,oV o]):=mv1.kw _ _ f1 (by rw[f4];simp)
   refine⟨_,xE.of hL.q.hp,_,HE (j:=0) rfl,_,oF.of ht,_,rfl,fl,rfl,us,j,rfl,h1,j,cV (by omega),r.sh,rfl,_,xE.of f1',oV o,HE (j:=2) rfl,?_⟩
   have hE:=hL.tw.empt (f:=true) hj
   cases o with
   |none=>
    rw[fA (by simp[oV])]
    refine q _ ⟨?_,hE⟩ mv1
    have e:LF p true j=p.put true j none:=EN (λk z=>by have z:p.tf[j]?=some (some k):=z;rw[ho] at z;cases z)
    rw[e]
    rw[bV ho] at q1
    refine Lq.twins q1 λi2 j2 h9=>?_
    have h9:=hL.tw.back i2 j2 h9
    have hi:i2≠j:=λe=>by rw[e,ho] at h9;cases h9
    exact K2 hi
   |some k=>
    rw[iA (by simp[oV])]
    have hk:=hL.tw.there j k ho
    have hb:=hL.tw.bare j k hk
    have hkl:=(aA.mp hb).1
    have g1':upd H fl (.lst (us.set j .non)) sl=some (.lst ws):=by rw[AE (Ne.symm hL.q.ne.2.2)];exact g1
    have q2:=q1.slot g1' (j:=k) (v:=.non) (r:=none) (o:=none) rfl
    have mv2:Mv [1] L L _ _:=mv1.trans (Mv.set (us':=ws.set k .non) g1' (by rw[l3];simp))
    refine⟨_,xE.of q1.hp,_,HE (j:=1) rfl,r.sh,rfl,_,xE.of f1',_,HE (j:=2) rfl,sl,rfl,ws,k,rfl,g1',k,cV (by omega),q _ ⟨?_,hE⟩ mv2⟩
    have e:LF p true j=((p.put true j none).tie true j none).tie false k none:=pQ (show (p.put true j none).tf[j]?=some (some k) from ho)
    rw[e]
    rw[bV hb] at q2
    refine Lq.twins q2 λi2 j2 h9=>?_
    obtain⟨h9,hne⟩:=FI.mp h9
    have h8:=hL.tw.back i2 j2 h9
    have hi:i2≠j:=λe=>by
     rw[e,ho] at h8
     exact hne (cA (cA h8)).symm
    exact K2 hi
theorem XN {a b:List (List Key)} (h:a.Perm b):nI a=nI b:=by
 unfold nI
 rw[MB,List.any_eq_true,List.any_eq_true]
 exact⟨λ⟨x,h1,h2⟩=>⟨x,h.mem_iff.mp h1,h2⟩,λ⟨x,h1,h2⟩=>⟨x,h.mem_iff.mpr h1,h2⟩⟩
noncomputable def FQ (s:St) (f:Bool) (j:Nat) (f':Bool) (j':Nat) (r q:Sh):St:=LF (s.put f' j' (some (FG q r.ks))) f j
noncomputable def XH (x:Fs) (p:Bool×Nat):Fs:=match AF x.s p with
 |none=>x
 |some r=>if nI r.ks=true then x else match x.F.find? λe=>decide (e.1=r.b) with
  |none=>{x with F:=x.F++[(r.b,p)]}
  |some e=>match AF x.s e.2 with
   |none=>x
   |some q=>{x with s:=FQ x.s p.1 p.2 e.2.1 e.2.2 r q,M:=x.M++[(p,e.2)]}
noncomputable def DE (s:St) (i:Nat):Fs:=((spA s).take i).foldl XH ⟨[],s,[]⟩
theorem Ua {s:St} {i:Nat} {p:Bool×Nat} (h:(spA s)[i]?=some p):DE s (i+1)=XH (DE s i) p:=by
 unfold DE
 rw[pB,h,List.foldl_append]
 rfl
structure EJ (x y:Fs):Prop where
 F:y.F=x.F
 M:y.M=x.M
 s:eG x.s y.s
theorem eG.rw {s p:St} (h:eG s p) (f:Bool):Paired xG (s.rw f) (p.rw f):=by cases f with|true=>exact h.fr|false=>exact h.sr
theorem eG.lk {s p:St} (h:eG s p) (q:Bool×Nat):xG (AF s q) (AF p q):=by
 unfold AF
 have hr:=h.rw q.1
 have hl:=Paired.length hr
 by_cases c:q.2 < (s.rw q.1).length
 ·obtain⟨y,h1,h2⟩:=BI hr (bA c)
  rw[h1,bA c]
  exact h2
 ·rw[oC (by omega),oC (by omega)]
  trivial
theorem eG.put {s p:St} (h:eG s p) {f:Bool} {j:Nat} {a b:Option Sh} (e:xG a b):eG (s.put f j a) (p.put f j b):=by
 cases f with
 |true=>exact⟨mK e j h.fr,h.sr,h.tf,h.ts,h.h⟩
 |false=>exact⟨h.fr,mK e j h.sr,h.tf,h.ts,h.h⟩
theorem eG.untie {s p:St} (h:eG s p) {i:Nat}:eG (Pf.untie s i) (Pf.untie p i):=by
 by_cases c:∃j,s.tf[i]?=some (some j)
 ·obtain⟨j,e⟩:=c
  rw[pQ e,pQ (by rw[h.tf];exact e)]
  refine⟨h.fr,h.sr,?_,?_,h.h⟩
  ·show p.tf.set i none=s.tf.set i none
   rw[h.tf]
  ·show p.ts.set j none=s.ts.set j none
   rw[h.ts]
 ·rw[EN (λj z=>c ⟨j,z⟩),EN (λj z=>c ⟨j,by rw[h.tf] at z;exact z⟩)]
  exact h
theorem eG.empt {s p:St} (h:eG s p) {f:Bool} {j:Nat}:eG (LF s f j) (LF p f j):=by
 cases f with
 |true=>exact (h.put (f:=true) (j:=j) (show xG none none from trivial)).untie
 |false=>exact h.put (f:=false) (show xG none none from trivial)
theorem EJ.step {x y:Fs} (h:EJ x y) (p:Bool×Nat):EJ (GG x p) (XH y p):=by
 unfold GG XH
 have h1:=h.s.lk p
 cases e1:AF x.s p with
 |none=>
  rw[e1] at h1
  cases e2:AF y.s p with
  |none=>exact h
  |some w=>rw[e2] at h1;exact h1.elim
 |some r=>
  rw[e1] at h1
  cases e2:AF y.s p with
  |none=>rw[e2] at h1;exact h1.elim
  |some w=>
   rw[e2] at h1
   obtain⟨hb,hk⟩:=h1
   dsimp only
   rw[XN hk,hb,h.F]
   by_cases c:nI r.ks=true
   ·rw[iA c,iA c];exact h
   ·rw[fA c,fA c]
    cases e3:x.F.find? (λe=>decide (e.1=r.b)) with
    |none=>exact⟨by show _++_=_++_;rfl,h.M,h.s⟩
    |some e=>
     dsimp only
     have h3:=h.s.lk e.2
     cases e4:AF x.s e.2 with
     |none=>
      rw[e4] at h3
      cases e5:AF y.s e.2 with
      |none=>exact⟨h.F,h.M,h.s⟩
      |some w=>rw[e5] at h3;exact h3.elim
     |some q=>
      rw[e4] at h3
      cases e5:AF y.s e.2 with
      |none=>rw[e5] at h3;exact h3.elim
      |some v=>
       rw[e5] at h3
       exact⟨by first|rfl|exact h.F,by show y.M++_=x.M++_;rw[h.M],eG.empt (h.s.put (show xG (some (FG q (JF r.ks))) (some (FG v w.ks)) from ⟨h3.1,h3.2.append (hk.trans DI.symm)⟩))⟩
theorem eG.spA {s p:St} (h:eG s p):spA p=Pf.spA s:=by
 unfold Pf.spA
 rw[Paired.length h.fr,Paired.length h.sr]
theorem N2 {s p:St} (h:eG s p):∀i,EJ (aF s i) (DE p i):=by
 unfold aF DE
 rw[h.spA]
 generalize Pf.spA s=l
 intro i
 have go:∀(l:List (Bool×Nat)) (x y:Fs),EJ x y->EJ (l.foldl GG x) (l.foldl XH y):=λl=>by
  induction l with
  |nil=>intro x y h;exact h
  |cons a l ih=>intro x y h;exact ih _ _ (h.step a)
 exact go _ _ _ ⟨rfl,rfl,h⟩
noncomputable def k1 (k:List Key):V:=match k with
 |x::_=>kV x
 |[]=>.non
theorem Va {ks:List (List Key)} (tri:∀k∈ks,uG k):aR (V.str (Str.ofString "bank")) (ks.map k1)=nI ks:=by
 unfold aR nI
 rw[List.any_map]
 induction ks with
 |nil=>rfl
 |cons k ks ih=>
  rw[IC,IC,ih λx hx=>tri x (jA _ hx)]
  congr 1
  obtain⟨t,a,b,rfl⟩:=tri k (wA ..)
  show kJ (kV (.inr t)) (kV (.inr (Str.ofString "bank")))=pK [.inr t,.inl a,.inl b]
  rw[rZ]
  unfold pK
  by_cases e:t=Str.ofString "bank"
  ·subst e;exact (AA rfl).trans (AA rfl).symm
  ·exact (vA (λz=>e (XD z))).trans (vA (λz=>e (XD (cA z)))).symm
theorem Wa {ks:List (List Key)} (tri:∀k∈ks,uG k):(ks.map k1).all YF=true:=by
 rw[List.all_eq_true]
 intro v hv
 obtain⟨k,hk,rfl⟩:=DB.mp hv
 obtain⟨t,a,b,rfl⟩:=tri k hk
 rfl
theorem Xa {K:PySem.W.Frag} {a D:Addr} {us:List V} {ks:List (List Key)} {H:Hp} {Q:Hp->Prop} {h:ZI (OH 0) tYes (wM (qJ K) (SH 0) (tC (V.int 0)))} (hD:H D=none) (ha:H a=some (.lst us)) (hk:Paired (λv k=>∃a,v=V.ref a/\H a=some (.tup (k.map kV))) us ks) (tri:∀k∈ks,uG k) (hl:ks.length<=2000) (q:∀H',vE H H'->H' D=some (.lst (ks.map k1))->Q H'):vJ (OH 0) tYes (wM (qJ K) (SH 0) (tC (V.int 0))) h (cL K a) [none] D Q H:=by
 have hul:=Paired.length hk
 have hz:=PySem.sizeLine_eq
 refine MM (xs:=us) (λi ys σ H'=>∃v,σ=[v]/\vE H H'/\ys=(ks.take i).map k1/\H' D=some (.lst ys)) ⟨_,rfl,WF sF hD,rfl,bF⟩ (λi ys σ H' _ ⟨_,_,s2,_⟩=>xE.of (s2 _ _ ha)) (λi v ys σ H' hi=>?_) (λys σ H6=>?_)
 ·rintro⟨v',rfl,s2,rfl,hD2⟩
  obtain⟨k,hk1,b,rfl,hb⟩:=BI hk hi
  obtain⟨t,a1,b1,rfl⟩:=tri k (dA hk1)
  have hil:=(aA.mp hk1).1
  have htk:ks.take (i+1)=ks.take i++[[.inr t,.inl a1,.inl b1]]:=by rw[pB,hk1];rfl
  walk_at "wp"
  refine⟨_,oF.of (s2 _ _ hb),.str t,HE (j:=0) rfl,hD2,by rw[lA,XA];omega,pH s2 hD,?_⟩
  rw[htk,aB]
  rfl
 ·rintro⟨v',rfl,s2,rfl,hD2⟩
  rw[hul,mB] at hD2
  exact q H6 s2 hD2
theorem iS.say {H:Hp} {L:Lb} {p:St} {f:Bool} {j:Nat} {v:V} (h:iS H L p f j v):
  (AF p (f,j)=none/\(v=.non\/(f=false/\∃a x y i,v=.ref a/\H a=some (.lst [x,y,.int i]))))\/
  ∃r tw,AF p (f,j)=some r/\(p.rw f)[j]?=some (some r)/\v=.ref r.sh/\H r.sh=some (.lst [.ref r.bx,.ref r.hd,oV tw])/\H r.bx=some (.lst (r.b.map V.int))/\VH H r.hd r.ks/\L r.hd=4/\L r.sh=2/\(f=false->tw=none):=by
 cases f with
 |true=>
  obtain⟨r,o,h1,h2,h3⟩:=h
  have e:AF p (true,j)=r:=by unfold AF;show (p.fr[j]?).getD none=r;rw[h1];rfl
  cases r with
  |none=>exact .inl ⟨e,.inl h3⟩
  |some r=>obtain⟨e1,q1,q2,q3,q4,_,q6⟩:=h3;exact .inr ⟨r,o,e,h1,e1,q1,q2,q3,q6,q4,λz=>by cases z⟩
 |false=>
  obtain⟨r,o,h1,h2,h3⟩:=h
  have e:AF p (false,j)=r:=by unfold AF;show (p.sr[j]?).getD none=r;rw[h1];rfl
  cases r with
  |none=>
   cases o with
   |none=>exact .inl ⟨e,.inl h3⟩
   |some i=>obtain⟨a,x,y,e1,q1,_⟩:=h3;exact .inl ⟨e,.inr ⟨rfl,a,_,_,_,e1,q1⟩⟩
  |some r=>obtain⟨e1,q1,q2,q3,q4,_,q6⟩:=h3;exact .inr ⟨r,none,e,h1,e1,q1,q2,q3,q6,q4,λ_=>rfl⟩
theorem Za:∀(ds:List Dv),SE ds []=true
 |[]=>by simp[SE]
 |_::_=>by simp[SE]
theorem Lp.set5 {G:Hp} {L:Lb} {pl fl sl a:Addr} {p:St} {us us':List V} (h:Lp G L pl fl sl p) (ha:G a=some (.lst us)) (la:L a=5):Lp (upd G a (.lst us')) L pl fl sl p:=⟨h.q.zs (N:=[5]) ((Mv.set (S:=[5]) ha (by rw[la];simp)).zv h.q.lv (by simp)) (by simp) h.q.lv.set,h.tw⟩
theorem Mv.fresh {S:List Nat} {L L':Lb} {H G:Hp} {a:Addr} {o o':HO} (m:Mv S L L' H G) (hH:H a=none) (ha:G a=some o):Mv S L L' H (upd G a o'):=⟨m.lx,λc x hc n=>by rw[AE (NF hc hH)];exact m.kw c x hc n,λc hc=>by
 by_cases e:c=a
 ·rw[e,bF] at hc;cases hc
 ·rw[AE e] at hc;exact m.dm c hc⟩
theorem O2 {s:St} {f f':Bool} {j j':Nat} {x:Option Sh} {o:Option Sh} (h:(s.rw f)[j]?=some o) (ne:¬(f'=f/\j'=j)):((s.put f' j' x).rw f)[j]?=some o:=by
 cases f<;>cases f'
 ·show (s.sr.set j' x)[j]?=some o
  rw[qA,fA (λz=>ne ⟨rfl,z⟩)];exact h
 ·exact h
 ·exact h
 ·show (s.fr.set j' x)[j]?=some o
  rw[qA,fA (λz=>ne ⟨rfl,z⟩)];exact h
theorem P2 {s:St} {f:Bool} {j:Nat} {x:Option Sh} {q:Bool×Nat} {w:Sh} (h:AF (s.put f j x) q=some w):x=some w\/AF s q=some w:=by
 have h1:=eJ h
 by_cases e:f=q.1/\j=q.2
 ·obtain⟨rfl,rfl⟩:=e
  left
  cases hq:q.1 with
  |true=>
   rw[hq] at h1
   have h1:(s.fr.set q.2 x)[q.2]?=some (some w):=h1
   rw[qA] at h1
   simp at h1
   exact h1.2
  |false=>
   rw[hq] at h1
   have h1:(s.sr.set q.2 x)[q.2]?=some (some w):=h1
   rw[qA] at h1
   simp at h1
   exact h1.2
 ·right
  cases h2:(s.rw q.1)[q.2]? with
  |some o=>
   have:=O2 (x:=x) h2 e
   rw[h1] at this
   unfold AF
   rw[h2,<-cA this]
   rfl
  |none=>
   exfalso
   have hl:=(aA.mp h1).1
   have:((s.put f j x).rw q.1).length=(s.rw q.1).length:=by
    cases f<;>cases q.1<;>simp[St.put,St.rw]
   rw[rC] at h2
   omega
theorem Q2 {s:St} {f:Bool} {j:Nat}:(LF s f j).fr=(s.put f j none).fr/\(LF s f j).sr=(s.put f j none).sr:=by
 cases f with
 |true=>exact⟨oJ.1,oJ.2.1⟩
 |false=>exact⟨rfl,rfl⟩
theorem YN {s:St} {f f':Bool} {j j':Nat} {r q0:Sh} {q:Bool×Nat} {w:Sh} (h:AF (FQ s f j f' j' r q0) q=some w):(True/\w.ks=q0.ks++r.ks)\/AF s q=some w:=by
 have e:AF (FQ s f j f' j' r q0) q=AF ((s.put f' j' (some (FG q0 r.ks))).put f j none) q:=by
  unfold AF FQ St.rw
  rw[Q2.1,Q2.2]
 rw[e] at h
 rcases P2 h with h|h
 ·cases h
 ·rcases P2 h with h|h
  ·obtain rfl:FG q0 r.ks=w:=cA h
   exact .inl ⟨trivial,rfl⟩
  ·exact .inr h
theorem PK {α:Type} {l:List α} {i:Nat} {x:α} (h:l[i]?=some x):l.take (i+1)=l.take i++[x]:=by rw[pB,h];rfl
theorem twoways {c D R:Prop} [Decidable c] (h:c->R->D) (r:R):if c then D else R:=by
 by_cases e:c
 ·rw[iA e];exact h e r
 ·rw[fA e];exact r
noncomputable def LI (F:List (List Int×(Bool×Nat))) (b:List Int):List (Bool×Nat):=(F.filter λe=>decide (e.1=b)).map (·.2)
theorem bb {F:List (List Int×(Bool×Nat))} {b:List Int}:(LI F b).length<=F.length:=by
 unfold LI
 rw[lA]
 exact yD _ _
theorem db {F:List (List Int×(Bool×Nat))} {b:List Int} {k:Nat} {e:List Int×(Bool×Nat)} (h:F[k]?=some e) (c:e.1=b):LI (F.take (k+1)) b=LI (F.take k) b++[e.2]:=by
 unfold LI
 rw[PK h,GC,aB]
 simp[c]
theorem gb {F:List (List Int×(Bool×Nat))} {b:List Int} {k:Nat} {e:List Int×(Bool×Nat)} (h:F[k]?=some e) (c:e.1≠b):LI (F.take (k+1)) b=LI (F.take k) b:=by
 unfold LI
 rw[PK h,GC,aB]
 simp[c]
theorem jb {b:List Int}:∀{F:List (List Int×(Bool×Nat))},F.find? (λe=>decide (e.1=b))=none->LI F b=[]
 |F,h=>by
  unfold LI
  rw[List.filter_eq_nil_iff.mpr (λx hx=>List.find?_eq_none.mp h x hx)]
  rfl
theorem U2 {b:List Int} {e:List Int×(Bool×Nat)}:∀{F:List (List Int×(Bool×Nat))},F.find? (λe=>decide (e.1=b))=some e->∃r,LI F b=e.2::r
 |x::F,h=>by
  unfold LI
  by_cases c:x.1=b
  ·rw[XB,AA c] at h
   obtain rfl:x=e:=cA h
   rw[gC,iA (AA c)]
   exact⟨_,rfl⟩
  ·rw[XB,vA c] at h
   rw[gC,fA (by simpa using c)]
   exact U2 h
noncomputable def sK (p:Bool×Nat):Dv:=.seq true (MK [.str (BH p.1),.int (p.2:Int)])
theorem W2 {K:PySem.W.Frag} {H:Hp}:∀{xs:List V} {ps:List (Bool×Nat)},Paired (EH H) xs ps->JE K H (ps.map sK) xs
 |_,_,.nil=>by unfold JE;rfl
 |_,_,.cons ⟨a,e,h⟩ r=>by
  rw[CA]
  unfold JE
  exact⟨_,_,rfl,by subst e;exact p7 (oF.of h) rfl,W2 r⟩
theorem X2:∀(ps:List (Bool×Nat)),GE (ps.map sK)<=1
 |[]=>by rw[dC];unfold GE;omega
 |p::ps=>by
  rw[CA]
  unfold GE
  have h1:=X2 ps
  have h2:vF (sK p)=1:=by unfold sK vF;rw[XS]
  omega
theorem Fi.less {s0:St} {i:Nat} {x:Fs} (hfi:Fi s0 i x) {sp:Bool×Nat} {r0:Sh} (e0:AF x.s sp=some r0):r0.ks.length < 640:=by
 have h0m:r0∈WE x.s:=by
  have h9:=eJ e0
  rw[yH]
  cases e9:sp.1 with
  |true=>rw[e9] at h9;exact .inl (dA h9)
  |false=>rw[e9] at h9;exact .inr (dA h9)
 have:=hfi.few r0.b
 have h9:r0.ks.length<=(((WE x.s).filter λu=>decide (u.b=r0.b)).flatMap Sh.ks).length:=by
  have hm:r0∈(WE x.s).filter λu=>decide (u.b=r0.b):=fD.mpr ⟨h0m,AA rfl⟩
  obtain⟨l1,l2,e9⟩:=jC hm
  rw[e9,ZB,SA,nA,nA]
  omega
 omega
structure JO (H:Hp) (L L':Lb) (pl fl sl l fi mo:Addr) (us:List V) (p:St) (i:Nat) (G:Hp):Prop where
 lp:Lp G L' pl fl sl (DE p i).s
 ap:Ap (DE p i).s
 nk:∀q w,AF (DE p i).s q=some w->w.ks≠[]
 ll:G l=some (.lst us)/\Paired (EH G) us (spA p)
 ff:∃fs,G fi=some (.lst fs)/\Paired (EH G) fs ((DE p i).F.map (·.2))
 mm:∃ms,G mo=some (.lst ms)/\Paired (qK G) ms (DE p i).M
 mv:Mv [1,4] L L' H G
theorem JO.stay {H:Hp} {L L':Lb} {pl fl sl l fi mo:Addr} {us:List V} {p:St} {i:Nat} {G G':Hp} (h:JO H L L' pl fl sl l fi mo us p i G) (s:vE G G') (e:DE p (i+1)=DE p i):JO H L L' pl fl sl l fi mo us p (i+1) G':=by
 obtain⟨fs,f1,f2⟩:=h.ff
 obtain⟨ms,m1,m2⟩:=h.mm
 exact⟨by rw[e];exact h.lp.same s,by rw[e];exact h.ap,by rw[e];exact h.nk,⟨s _ _ h.ll.1,Paired.mapP h.ll.2 λ_ _ q=>q.same s⟩,⟨fs,s _ _ f1,by rw[e];exact Paired.mapP f2 λ_ _ q=>q.same s⟩,⟨ms,s _ _ m1,by rw[e];exact Paired.mapP m2 λ_ _ q=>q.to λc us hc=>s _ _ hc⟩,h.mv.trans (Mv.of s)⟩
theorem jS {s:St} (h:Fi s 0 ⟨[],s,[]⟩):∀i,i<=(spA s).length->Fi s i (aF s i)
 |0,_=>h
 |i+1,hi=>by
  obtain⟨p,hp⟩:∃p,(spA s)[i]?=some p:=⟨_,bA (by omega)⟩
  rw[WU hp]
  exact (jS h i (by omega)).next hp
noncomputable def sp_lfd:Sp:=λvs H Q _=>∃(pl fl sl:Addr) (L:Lb) (s p:St),vs=[.ref pl]/\Lp H L pl fl sl p/\Ap p/\eG s p/\Fi s 0 ⟨[],s,[]⟩/\(∀q w,AF p q=some w->w.ks≠[])/\p.fr.length<=640/\p.sr.length<=640/\∀H' L' mo us,Lp H' L' pl fl sl (DE p (spA p).length).s->Ap (DE p (spA p).length).s->H' mo=some (.lst us)->L' mo=5->Paired (qK H') us (DE p (spA p).length).M->Mv [1,4] L L' H H'->Q (.ref mo) H'
theorem GQ (T:bG K mg A):XG P w K mg base "_law_folded" 3 ["_law_plain"] [] sp_lfd:=by
 have Cm:=EQ (P:=P) (w:=w) (base:=base) T
 have Fm:=WN (P:=P) (w:=w) (base:=base) T
 refine T.Ev.have qN (λvs H Q E z=>?_) ?_
 ·obtain⟨pl,fl,sl,L,s,p,rfl,_⟩:=z;rfl
 ·intro f cdv A' outer s H vs Q E hr z
  obtain⟨pl,fl,sl,L,s0,p,rfl,hL,hA,hsi,hfi0,hnk,hz1,hz2,q⟩:=z
  refine⟨_,(zF (xF (i:=1) qN.nd rfl (Or.inl rfl) (jF ES (HJ rfl (iJ rfl T.Ao (sE (QF MG rfl T.Aj PySem.boot_len (sE (IE eF (pE 0) EE (λ_ _=>rfl)) zE)) zE)) (x:="_law_k") (fs:=[]) (ix:=[]) rfl rfl (λ_ _ _ _ _ _=>(KG (i:=0) (show (["_law_k"]:List Str).Nodup by decide+kernel) rfl (Or.inl rfl))) (λ_ _ _ _ _ _=>wK) (λ_ _ _ _ _ _=>(mH (sE ZH (sE (pE 0) zE))))) (HJ rfl (iJ rfl T.Ao (sE (QF MG rfl T.Aj PySem.boot_len (sE (IE eF (pE 0) EE (λ_ _=>rfl)) zE)) zE)) (x:="_law_k") (fs:=[]) (ix:=[]) rfl rfl (λ_ _ _ _ _ _=>(KG (i:=0) (show (["_law_k"]:List Str).Nodup by decide+kernel) rfl (Or.inl rfl))) (λ_ _ _ _ _ _=>wK) (λ_ _ _ _ _ _=>(mH (sE ZH (sE (pE 0) zE)))))))
   (iF (xF (i:=2) qN.nd rfl (Or.inl rfl) (lH zE))
   (iF (xF (i:=3) qN.nd rfl (Or.inl rfl) (lH zE))
   (zF (GJ jB rfl (FJ (pE 1)) (KG (i:=4) qN.nd rfl (Or.inl rfl)) (zF (xF (i:=5) qN.nd rfl (Or.inr rfl) (DG Cm (hr.mono (by decide)) nF (sE (pE 0) (sE (pE 4) zE))))
   (iF (VF (PW.pt (UO (BF bI (pE 5) wF (uE _)) (SO (PW.pt (hJ (BF OI (IE CG (pE 4) EE (λ_ _=>rfl)) ZH (uE _)) (gJ (BF cI (IE eF (pE 5) EE (λ_ _=>rfl)) wF (uE _)))))))) (ME XX) mG)
   (iF (VF (BF o5 ZH (HJ rfl (FJ (IE eF (pE 5) EE (λ_ _=>rfl))) (x:="_law_holder") (fs:=[]) (ix:=[]) rfl rfl (λ_ _ _ _ _ _=>(KG (i:=0) (show (["_law_holder"]:List Str).Nodup by decide+kernel) rfl (Or.inl rfl))) (λ_ _ _ _ _ _=>wK) (λ_ _ _ _ _ _=>(IE (cZ (K:=K) rfl) (pE 0) EE (λ_ _=>rfl)))) (by with_unfolding_all rfl)) (ME XX) mG)
   (zF (vP (i:=6) qN.nd rfl rfl rfl (FJ (pE 2)) (x:="_law_other") (fs:=["_law_plain","_law_one"]) (ix:=[0,5]) rfl rfl (λ_ _ _ _ _ _=>(KG (i:=0) (show (["_law_other","_law_plain","_law_one"]:List Str).Nodup by decide+kernel) rfl (Or.inl rfl))) (λ_ _ _ _ _ _=>(LM (BF (m9 (K:=K) (n:=4) rfl (pO hr)) (IE (NK (K:=K) rfl) (DG Cm (hr.mono (by decide)) tL (sE (pE 1) (sE (pE 0) zE))) EE (λ_ _=>rfl)) (IE (NK (K:=K) rfl) (pE 2) EE (λ_ _=>rfl)) (uE _)))) (λ_ _ _ _ _ _=>(pE 0)))
   (ME (VF (BF (OY (n:=4) (pO hr)) (pE 6) (lH zE) (uE _)) (ME (qH (PJ PySem.F.plainAttrs_list PySem.F.slot_list_append PySem.F.type_list_append QJ (pE 2) (sE (pE 4) zE)))) (iF (qH (PJ PySem.F.plainAttrs_list PySem.F.slot_list_append PySem.F.type_list_append QJ (pE 3) (sE (mH (sE (pE 4) (sE (IE eF (pE 6) EE (λ_ _=>rfl)) zE))) zE)))
   (iF (qH (PJ PySem.F.plainAttrs_list PySem.F.slot_list_extend PySem.F.type_list_extend M5 (IE eF (DG Cm (hr.mono (by decide)) nF (sE (pE 0) (sE (IE eF (pE 6) EE (λ_ _=>rfl)) zE))) EE (λ_ _=>rfl)) (sE (IE eF (pE 5) EE (λ_ _=>rfl)) zE)))
   (ME (qH (DG Fm (hr.mono (by decide)) nF (sE (pE 0) (sE (pE 4) zE))))))))))))))
   (ME (KF (pE 3))))))),?_⟩
  obtain⟨us1,f1,f2,f3⟩:=hL.q.hf
  obtain⟨us2,g1,g2,g3⟩:=hL.q.hs
  have hz:=PySem.sizeLine_eq
  have hpl:=hL.q.hp
  have rgn:∀(b:Bool) (i:Nat),(List.range (i+1)).map (λx=>(b,x))=(List.range i).map (λx=>(b,x))++[(b,i)]:=λb i=>by rw[lE,aB];rfl
  refine⟨λσ G=>∃l us,σ=[some (.ref pl),some (.ref l),none,none,none,none,none]/\vE H G/\H l=none/\G l=some (.lst us)/\Paired (EH G) us (spA p),?_,λσ1 G1=>?_⟩
  ·walk_at "wp"
   refine⟨_,xE.of hpl,_,HE (j:=0) rfl,_,.inl ⟨_,xE.of f1,rfl⟩,by omega,by omega,λD hD=>?_⟩
   refine LK (λi ys σ H'=>∃v,σ=[v]/\vE H H'/\H' D=some (.lst ys)/\Paired (EH H') ys ((List.range i).map (true,·))) ⟨_,rfl,WF sF hD,bF,.nil⟩ (λi ys σ H' hi=>?_) (λys σ H5=>?_)
   ·rintro⟨v,rfl,s1,hD1,hP⟩
    have hyl:=Paired.length hP
    rw[lA,ZA] at hyl
    walk_at "wp"
    intro p hp
    rw[zB]
    obtain⟨b1,c1⟩:=UF (o:=.tup [V.str (Str.ofString "frame"),V.int (i:Int)]) hp
    have hD2:=b1 _ _ hD1
    generalize upd H' p _=H2 at *
    have kp:∀{c o},H2 c=some o->(∀us,o≠.lst us)->upd H2 D (.lst (ys++[V.ref p])) c=some o:=λhc hn=>by rw[AE (qG hc hD2 (λe=>hn _ e))];exact hc
    refine⟨hD2,by omega,pH (s1.trans b1) hD,?_⟩
    rw[rgn]
    exact dJ (Paired.mapP hP λ_ _ ⟨a,e,q⟩=>⟨a,e,kp (b1 _ _ q) (λ_ z=>nomatch z)⟩) ⟨p,rfl,kp c1 (λ_ z=>nomatch z)⟩
   rintro⟨v,rfl,s1,hD1,hP⟩
   rw[f2,vB] at hP
   refine⟨_,xE.of (s1 _ _ hpl),_,HE (j:=1) rfl,_,.inl ⟨_,xE.of (s1 _ _ g1),rfl⟩,by omega,by omega,λD2 hD2=>?_⟩
   have ysl:=Paired.length hP
   rw[lA,ZA] at ysl
   refine LK (λi zs σ H'=>∃v,σ=[v]/\vE H5 H'/\H' D2=some (.lst zs)/\Paired (EH H') zs ((List.range i).map (false,·))) ⟨_,rfl,WF sF hD2,bF,.nil⟩ (λi ys σ H' hi=>?_) (λzs σ H6=>?_)
   ·rintro⟨v,rfl,s1,hD1,hP⟩
    have hD:=hD2
    have hyl:=Paired.length hP
    rw[lA,ZA] at hyl
    walk_at "wp"
    intro p hp
    rw[zB]
    obtain⟨b1,c1⟩:=UF (o:=.tup [V.str (Str.ofString "slot"),V.int (i:Int)]) hp
    have hD2:=b1 _ _ hD1
    generalize upd H' p _=H2 at *
    have kp:∀{c o},H2 c=some o->(∀us,o≠.lst us)->upd H2 D2 (.lst (ys++[V.ref p])) c=some o:=λhc hn=>by rw[AE (qG hc hD2 (λe=>hn _ e))];exact hc
    refine⟨hD2,by omega,pH (s1.trans b1) hD,?_⟩
    rw[rgn]
    exact dJ (Paired.mapP hP λ_ _ ⟨a,e,q⟩=>⟨a,e,kp (b1 _ _ q) (λ_ z=>nomatch z)⟩) ⟨p,rfl,kp c1 (λ_ z=>nomatch z)⟩
   ·rintro⟨v,rfl,s6,hD6,hP6⟩
    rw[g2,vB] at hP6
    have zsl:=Paired.length hP6
    rw[lA,ZA] at zsl
    refine⟨ys,s6 _ _ hD1,zs,hD6,by omega,λp hp=>?_⟩
    obtain⟨b7,c7⟩:=UF (o:=.lst (ys++zs)) hp
    exact⟨(s1.trans s6).trans b7,cG (s1.trans s6) hp,_,rfl,VU (Paired.mapP hP λ_ _ h=>h.same (s6.trans b7)) (Paired.mapP hP6 λ_ _ h=>h.same b7)⟩
  rintro⟨l,us,rfl,s1,hl,hl1,hP⟩
  walk_at "wp"
  intro fi hfi mo hmo
  obtain⟨b1,c1⟩:=UF (o:=.lst []) hfi
  obtain⟨b2,c2⟩:=UF (o:=.lst []) hmo
  have c12:=b2 _ _ c1
  have hfH:=cG s1 hfi
  have hmH:=cG s1 (cG b1 hmo)
  have nfl:fi≠l:=λe=>by rw[e,hl1] at hfi;cases hfi
  have nmf:mo≠fi:=λe=>by rw[e,c1] at hmo;cases hmo
  have nml:mo≠l:=λe=>by rw[e,b1 _ _ hl1] at hmo;cases hmo
  have s2:=b1.trans b2
  have lpA:=((hL.lab (k:=5) s1 hl hl1).lab (k:=5) b1 hfi c1).lab (k:=5) b2 hmo c2
  have mvA:Mv [1,4] L _ H _:=((Mv.lab (k:=5) s1 hl).trans (Mv.lab (k:=5) b1 hfi)).trans (Mv.lab (k:=5) b2 hmo)
  generalize upd (upd G1 fi _) mo _=G2 at *
  obtain⟨L0,hL0⟩:∃L0,L0=lab (lab (lab L l 5) fi 5) mo 5:=⟨_,rfl⟩
  have hll:L0 l=5/\L0 fi=5/\L0 mo=5:=by
   rw[hL0]
   exact⟨by rw[aH (Ne.symm nml),aH (Ne.symm nfl),FH],by rw[aH (Ne.symm nmf),FH],FH⟩
  have hI0:JO H L L0 pl fl sl l fi mo us p 0 G2:=by
   rw[hL0]
   exact⟨lpA,hA,hnk,⟨s2 _ _ hl1,Paired.mapP hP λ_ _ q=>q.same s2⟩,⟨[],c12,.nil⟩,⟨[],c2,.nil⟩,mvA⟩
  have hspl:(spA p).length=us.length:=(Paired.length hP).symm
  refine⟨λσ G=>∃v4 v5 v6,σ=[some (.ref pl),some (.ref l),some (.ref fi),some (.ref mo),v4,v5,v6]/\JO H L L0 pl fl sl l fi mo us p us.length G,?_,λσ2 G9=>?_⟩
  ·walk_at "wp"
   refine⟨⟨_,xE.of (s2 _ _ hl1)⟩,rP (K:=K) (xs:=us) (λi σ G=>∃v4 v5 v6,σ=[some (.ref pl),some (.ref l),some (.ref fi),some (.ref mo),v4,v5,v6]/\JO H L L0 pl fl sl l fi mo us p i G) ⟨_,_,_,rfl,hI0⟩ (λi σ G _ ⟨_,_,_,_,h⟩=>xE.of h.ll.1) (λi v σ G hi=>?_) (λσ G=>?_)⟩
   ·rintro⟨v4,v5,v6,rfl,hI⟩
    obtain⟨sp,hp,t,rfl,ht⟩:=BI hI.ll.2 hi
    have hil:=(aA.mp hp).1
    have hfi:=jS hfi0 i (by rw[<-hsi.spA];omega)
    have hsf:=N2 hsi i
    have esucc:=Ua hp
    have spl:sp.2 < ((DE p i).s.rw sp.1).length:=by
     have:=dA hp
     have a1:=Paired.length hsf.s.fr
     have a2:=Paired.length hsf.s.sr
     have a3:=Paired.length hsi.fr
     have a4:=Paired.length hsi.sr
     have a5:=hfi.fr
     have a6:=hfi.sr
     unfold spA at this
     rcases GA.mp this with h9|h9
     ·obtain⟨y,hy,rfl⟩:=DB.mp h9
      have:=DC.mp hy
      show y < (DE p i).s.fr.length
      omega
     ·obtain⟨y,hy,rfl⟩:=DB.mp h9
      have:=DC.mp hy
      show y < (DE p i).s.sr.length
      omega
    walk_at "wp"
    refine⟨λσ G'=>∃v,σ=[some (.ref pl),some (.ref l),some (.ref fi),some (.ref mo),some (.ref t),some v,v6]/\G'=G/\iS G L0 (DE p i).s sp.1 sp.2 v,?_,λσ6 G6=>?_⟩
    ·unfold sp_at
     walk_at "wp"
     exact⟨fl,sl,L0,(DE p i).s,hI.lp,sp.1,sp.2,ht,spl,λv hv=>hv⟩
    rintro⟨v,rfl,rfl,hv⟩
    walk_at "wp"
    unfold XH at esucc
    rcases hv.say with ⟨e,h9⟩|⟨r,tw,e,hrj,rfl,d1,d2,⟨ts,d3,d4⟩,d5,d5b,d6⟩
    ·have e:AF (DE p i).s sp=none:=e
     rw[e] at esucc
     rcases h9 with rfl|⟨hf,a,x,y,z,rfl,ha⟩
     ·rw[iA rfl]
      unfold tCont
      exact⟨_,_,_,rfl,hI.stay sF esucc⟩
     ·rw[fA (λz=>nomatch z)]
      have ht':G6 t=some (.tup [.str (BH false),.int (sp.2:Int)]):=by rw[<-hf];exact ht
      refine⟨_,oF.of ht',_,rfl,rfl,?_⟩
      rw[iA (show V.str (BH false)=V.str (Str.ofString "slot") from rfl)]
      refine⟨_,rfl,_,xE.of ha,_,HE (j:=2) rfl,?_⟩
      rw[iA (by simp)]
      unfold tCont
      exact⟨_,_,_,rfl,hI.stay sF esucc⟩
    ·have e:AF (DE p i).s sp=some r:=e
     rw[e] at esucc
     rw[fA (λz=>nomatch z)]
     refine⟨_,oF.of ht,_,rfl,rfl,?_⟩
     refine twoways (λhc hR=>⟨_,rfl,_,xE.of d1,oV tw,HE (j:=2) rfl,?_⟩) ?_
     ·have hf:sp.1=false:=by
       cases e:sp.1 with
       |false=>rfl
       |true=>rw[e] at hc;exact absurd hc (by decide+kernel)
      rw[d6 hf,fA (by simp[oV])]
      exact hR
     have hrm:∃r0,AF (aF s0 i).s sp=some r0/\r.b=r0.b/\r.ks.Perm r0.ks:=by
      have h9:=hsf.s.lk sp
      rw[e] at h9
      cases e0:AF (aF s0 i).s sp with
      |none=>rw[e0] at h9;exact h9.elim
      |some r0=>rw[e0] at h9;exact⟨r0,rfl,h9⟩
     obtain⟨r0,e0,hb0,hk0⟩:=hrm
     have h0m:r0∈WE (aF s0 i).s:=by
      have h9:=eJ e0
      rw[yH]
      cases e9:sp.1 with
      |true=>rw[e9] at h9;exact .inl (dA h9)
      |false=>rw[e9] at h9;exact .inr (dA h9)
     have tri:∀k∈r.ks,uG k:=λk hk=>hfi.tri k (cE.mpr ⟨r0,h0m,hk0.mem_iff.mp hk⟩)
     have few:r.ks.length < 640:=by rw[hk0.length_eq];exact hfi.less e0
     refine⟨_,rfl,_,xE.of d1,_,HE (j:=1) rfl,_,rfl,⟨_,xE.of d3⟩,λD hD=>Xa hD d3 d4 tri (by omega) λH' s' hD'=>?_⟩
     refine⟨_,.inl (xE.of hD'),rfl,Wa tri,?_⟩
     rw[fA (show ¬(false=true) from oA),Va tri]
     by_cases c:nI r.ks=true
     ·rw[iA c]
      unfold tCont
      refine⟨_,_,_,rfl,hI.stay s' ?_⟩
      rw[esucc]
      exact iA c
     rw[fA c]
     have esucc:=esucc.trans (fA c)
     have few2:∀e∈(DE p i).F,∃q,AF (DE p i).s e.2=some q/\q.b=e.1/\e.2.2 < ((DE p i).s.rw e.2.1).length:=λe he=>by
      obtain⟨⟨q0,h1,h2,_⟩,_⟩:=hfi.first e (by rw[<-hsf.F];exact he)
      have h9:=hsf.s.lk e.2
      rw[h1] at h9
      cases e1:AF (DE p i).s e.2 with
      |none=>rw[e1] at h9;exact h9.elim
      |some q=>rw[e1] at h9;exact⟨q,rfl,h9.1.trans h2,(aA.mp (eJ e1)).1⟩
     obtain⟨fs,f1',f2'⟩:=hI.ff
     have f2l:=Paired.length f2'
     rw[lA] at f2l
     have hspn:(spA p).length<=1280:=by
      unfold spA
      rw[nA,lA,lA,ZA,ZA]
      omega
     have hfl:(DE p i).F.length<=1280:=by
      have h8:=hfi.fl
      rw[<-hsf.F] at h8
      omega
     refine⟨λσ J=>∃sm xs,σ=[some (.ref pl),some (.ref l),some (.ref fi),some (.ref mo),some (.ref t),some (.ref r.sh),some (.ref sm)]/\vE G6 J/\G6 sm=none/\J sm=some (.lst xs)/\Paired (EH J) xs (LI (DE p i).F r.b),?_,λσ7 J=>?_⟩
     ·unfold sp_at
      walk_at "wp"
      refine⟨⟨_,xE.of (s' _ _ f1')⟩,λD2 hD2=>MM (xs:=fs) (λk ys σ J=>∃v,σ=[v,some (.ref pl),some (.ref r.sh)]/\vE H' J/\J D2=some (.lst ys)/\Paired (EH J) ys (LI ((DE p i).F.take k) r.b)) ⟨_,rfl,WF sF hD2,bF,.nil⟩ (λk ys σ J _ ⟨_,_,e,_⟩=>xE.of (e _ _ (s' _ _ f1'))) (λk v ys σ J hk=>?_) (λys σ J=>?_)⟩
      ·rintro⟨v',rfl,s3,hD3,hP3⟩
       obtain⟨sp2,hk1,t2,rfl,ht2⟩:=BI f2' hk
       rw[NA] at hk1
       obtain⟨en,hk2,rfl⟩:=eC.mp hk1
       obtain⟨q2,hq1,hq2,hq3⟩:=few2 en (dA hk2)
       have s13:=s'.trans s3
       walk_at "wp"
       refine⟨fl,sl,L0,(DE p i).s,hI.lp.same s13,en.2.1,en.2.2,s13 _ _ ht2,hq3,λv hv=>?_⟩
       rcases hv.say with ⟨e9,_⟩|⟨q3,tw3,e9,_,rfl,x1,x2,_⟩
       ·have e9:AF (DE p i).s en.2=none:=e9
        rw[hq1] at e9;cases e9
       have e9:AF (DE p i).s en.2=some q3:=e9
       rw[hq1] at e9
       obtain rfl:q2=q3:=cA e9
       refine⟨_,rfl,_,xE.of x1,_,HE (j:=0) rfl,_,xE.of (s13 _ _ d1),_,HE (j:=0) rfl,?_⟩
       unfold KK
       refine⟨false,uF q2.b,uF r.b,QY (xE.of x2),QY (xE.of (s13 _ _ d2)),RY _ _,by rw[SY];decide,_,rfl,?_⟩
       rw[TY,hq2]
       have hyl:=Paired.length hP3
       have hyl2:=bb (F:=(DE p i).F.take k) (b:=r.b)
       rw[XA] at hyl2
       by_cases c3:en.1=r.b
       ·rw[iA (AA c3),db hk2 c3]
        refine⟨hD3,by omega,pH s3 hD2,?_⟩
        have kp:∀{c us},J c=some (.tup us)->upd J D2 (.lst (ys++[V.ref t2])) c=some (.tup us):=λhc=>by rw[AE (qG hc hD3 (λz=>nomatch z))];exact hc
        exact dJ (Paired.mapP hP3 λ_ _ ⟨a,e,q⟩=>⟨a,e,kp q⟩) ⟨t2,rfl,kp (s13 _ _ ht2)⟩
       ·rw[fA (by rw[vA c3];simp),gb hk2 c3]
        exact⟨s3,hD3,hP3⟩
      ·rintro⟨v',rfl,s3,hD3,hP3⟩
       rw[f2l,mB] at hP3
       exact⟨s'.trans s3,cG s' hD2,ys,hD3,hP3⟩
     rintro⟨sm,xs,rfl,s3,hsm,hsm3,hP3⟩
     unfold sp_at sp_gone KK
     walk_at "wp"
     intro e1 he1
     obtain⟨b3,c3⟩:=UF (o:=.lst []) he1
     generalize upd J e1 _=J1 at *
     have sJ:=s3.trans b3
     have hsm1:=b3 _ _ hsm3
     have hP1:Paired (EH J1) xs (LI (DE p i).F r.b):=Paired.mapP hP3 λ_ _ q=>q.same b3
     refine⟨false,(LI (DE p i).F r.b).map sK,(by unfold EF;exact⟨sm,xs,rfl,by rw[fA oA];exact xE.of hsm1,W2 hP1⟩),[],(by unfold EF;exact⟨e1,[],rfl,by rw[fA oA];exact xE.of c3,by unfold JE;rfl⟩),Za _,EB (X2 _) (by decide),?_⟩
     obtain⟨ms,m1,m2⟩:=hI.mm
     have lp1:=hI.lp.same sJ
     cases ef:(DE p i).F.find? (λe=>decide (e.1=r.b)) with
     |none=>
      rw[ef] at esucc
      have esucc:DE p (i+1)={DE p i with F:=(DE p i).F++[(r.b,sp)]}:=esucc
      rw[jb ef,iA (by rw[dC];simp[VE])]
      refine⟨.inl ⟨rfl,_,xE.of (sJ _ _ f1')⟩,fs,sJ _ _ f1',by omega,?_⟩
      have kp:∀{c us},J1 c=some (.tup us)->upd J1 fi (.lst (fs++[V.ref t])) c=some (.tup us):=λhc=>by rw[AE (qG hc (sJ _ _ f1') (λz=>nomatch z))];exact hc
      refine⟨by rw[esucc];exact lp1.set5 (sJ _ _ f1') hll.2.1,by rw[esucc];exact hI.ap,by rw[esucc];exact hI.nk,⟨by rw[AE (Ne.symm nfl)];exact sJ _ _ hI.ll.1,Paired.mapP hI.ll.2 λ_ _ ⟨a,e,q⟩=>⟨a,e,kp (sJ _ _ q)⟩⟩,⟨_,bF,?_⟩,⟨ms,by rw[AE nmf];exact sJ _ _ m1,by rw[esucc];exact Paired.mapP m2 λ_ _ q=>q.to λc us hc=>kp (sJ _ _ hc)⟩,(hI.mv.trans (Mv.of sJ)).fresh hfH (sJ _ _ f1')⟩
      rw[esucc]
      show Paired _ _ (List.map _ ((DE p i).F++[(r.b,sp)]))
      rw[aB]
      exact dJ (Paired.mapP f2' λ_ _ ⟨a,e,q⟩=>⟨a,e,kp (sJ _ _ q)⟩) ⟨t,rfl,kp (sJ _ _ ht)⟩
     |some e2=>
      rw[ef] at esucc
      obtain⟨rs,ers⟩:=U2 ef
      rw[ers] at hP1 ⊢
      rw[fA (by rw[CA];simp[VE])]
      obtain⟨q2,hq1,hq2,hq3⟩:=few2 e2 (PB ef)
      obtain⟨xs',t2,rfl,ht2⟩:∃xs' t2,xs=.ref t2::xs'/\J1 t2=some (.tup [.str (BH e2.2.1),.int (e2.2.2:Int)]):=by
       cases hP1 with
       |cons h1 h2=>obtain⟨a,e,h⟩:=h1;subst e;exact⟨_,_,rfl,h⟩
      refine⟨.inl ⟨rfl,_,xE.of (sJ _ _ m1)⟩,_,xE.of hsm1,_,HE (j:=0) rfl,λp2 hp2=>?_⟩
      obtain⟨b4,c4⟩:=UF (o:=.tup [V.ref t,V.ref t2]) hp2
      generalize upd J1 p2 _=J2 at *
      have sJ2:=sJ.trans b4
      have m12:=sJ2 _ _ m1
      have ml:ms.length < 16777216:=by
       have:=Paired.length m2
       have h8:=hfi.ml
       rw[<-hsf.M] at h8
       omega
      refine⟨ms,m12,ml,?_⟩
      have kp:∀{c us},J2 c=some (.tup us)->upd J2 mo (.lst (ms++[V.ref p2])) c=some (.tup us):=λhc=>by rw[AE (qG hc m12 (λz=>nomatch z))];exact hc
      have nsm:mo≠sm:=λe=>by rw[<-e,m1] at hsm;cases hsm
      have lp3:=(lp1.same b4).set5 (us':=ms++[V.ref p2]) m12 hll.2.2
      have hsm4:upd J2 mo (.lst (ms++[V.ref p2])) sm=some (.lst (V.ref t2::xs')):=by rw[AE (Ne.symm nsm)];exact b4 _ _ hsm1
      refine⟨_,xE.of hsm4,_,HE (j:=0) rfl,fl,sl,t2,rfl,L0,_,lp3,e2.2.1,e2.2.2,kp (b4 _ _ ht2),hq3,λv hv=>?_⟩
      rcases hv.say with ⟨e9,_⟩|⟨q3,tw3,e9,hq9,rfl,x1,x2,⟨ts2,x3,x4⟩,x5,x5b,_⟩
      ·have e9:AF (DE p i).s e2.2=none:=e9
       rw[hq1] at e9;cases e9
      have e9:AF (DE p i).s e2.2=some q3:=e9
      rw[hq1] at e9
      obtain rfl:q2=q3:=cA e9
      have esucc:DE p (i+1)={DE p i with s:=FQ (DE p i).s sp.1 sp.2 e2.2.1 e2.2.2 r q2,M:=(DE p i).M++[(sp,e2.2)]}:=by
       have:=esucc
       dsimp only at this
       rw[hq1] at this
       exact this
      have apart:¬(e2.2.1=sp.1/\e2.2.2=sp.2):=λz=>by
       obtain⟨_,a,ha,e8⟩:=hfi.first e2 (by rw[<-hsf.F];exact PB ef)
       have ep:e2.2=sp:=eE z.1 z.2
       rw[ep,<-hsi.spA] at e8
       obtain⟨y1,y2⟩:=aA.mp e8
       obtain⟨y3,y4⟩:=aA.mp hp
       exact (cB.mp (eS (s:=p))) a i y1 y3 ha (y2.trans y4.symm)
      have d3':upd J2 mo (.lst (ms++[V.ref p2])) r.hd=some (.lst ts):=by rw[AE (λe=>by rw[e,hll.2.2] at d5;cases d5)];exact sJ2 _ _ d3
      have d1':upd J2 mo (.lst (ms++[V.ref p2])) r.sh=some (.lst [.ref r.bx,.ref r.hd,oV tw]):=by rw[AE (λe=>by rw[e,hll.2.2] at d5b;cases d5b)];exact sJ2 _ _ d1
      have hk2l:=Paired.length x4
      have hk1l:=Paired.length d4
      have few3:q2.ks.length < 640:=by
       have h9:=hsf.s.lk e2.2
       rw[hq1] at h9
       cases e0:AF (aF s0 i).s e2.2 with
       |none=>rw[e0] at h9;exact h9.elim
       |some r5=>
        rw[e0] at h9
        rw[h9.2.length_eq]
        exact hfi.less e0
      refine⟨_,rfl,_,xE.of x1,_,HE (j:=1) rfl,.inl ⟨rfl,_,xE.of x3⟩,_,xE.of d1',_,HE (j:=1) rfl,?_⟩
      unfold rExtend
      refine⟨q2.hd,r.hd,ts2,ts,rfl,rfl,x3,d3',by omega,?_⟩
      have lp4:=Lp.ks (f:=e2.2.1) (j:=e2.2.2) (ks':=q2.ks++r.ks) (us':=ts2++ts) lp3 hI.ap hq9 (hI.nk _ _ hq1) (VU x4 (Paired.mapP d4 λ_ _ ⟨a,e,q⟩=>⟨a,e,kp (sJ2 _ _ q)⟩))
      have mv4:Mv [1,4] L L0 H (upd (upd J2 mo (.lst (ms++[V.ref p2]))) q2.hd (.lst (ts2++ts))):=((hI.mv.trans (Mv.of sJ2)).fresh hmH m12).trans (Mv.set x3 (by rw[x5];simp))
      have kq:∀{c o},upd J2 mo (.lst (ms++[V.ref p2])) c=some o->L0 c≠4->upd (upd J2 mo (.lst (ms++[V.ref p2]))) q2.hd (.lst (ts2++ts)) c=some o:=λhc h4=>by rw[AE (λe=>h4 (by rw[e];exact x5))];exact hc
      have kt:∀{c us},J2 c=some (.tup us)->upd (upd J2 mo (.lst (ms++[V.ref p2]))) q2.hd (.lst (ts2++ts)) c=some (.tup us):=λhc=>by rw[AE (qG (kp hc) x3 (λz=>nomatch z))];exact kp hc
      refine⟨fl,sl,L0,_,lp4,sp.1,sp.2,kt (sJ2 _ _ ht),r,?_,λH9 lp9 mv9=>?_⟩
      ·exact O2 hrj apart
      have kh:∀{c o},upd (upd J2 mo (.lst (ms++[V.ref p2]))) q2.hd (.lst (ts2++ts)) c=some o->L0 c≠1->H9 c=some o:=λhc h1=>mv9.kw _ _ hc (by simpa using h1)
      have lt:∀{c us},J2 c=some (.tup us)->L0 c≠1:=λhc h1=>by
       obtain⟨us9,h9⟩:=lp4.q.lv _ (show L0 _≠0 by rw[h1];decide)
       rw[kt hc] at h9;cases h9
      have kt9:∀{c us},J2 c=some (.tup us)->H9 c=some (.tup us):=λhc=>kh (kt hc) (lt hc)
      have k5:∀{c us},G6 c=some (.lst us)->c≠mo->L0 c=5->H9 c=some (.lst us):=λhc hn h5=>kh (kq (by rw[AE hn];exact sJ2 _ _ hc) (by rw[h5];decide)) (by rw[h5];decide)
      refine⟨by rw[esucc];exact lp9,by rw[esucc];exact K1 (LU (r':=FG q2 r.ks) hI.ap hq9 rfl),?_,⟨k5 hI.ll.1 (Ne.symm nml) hll.1,Paired.mapP hI.ll.2 λ_ _ ⟨a,e,q⟩=>⟨a,e,kt9 (sJ2 _ _ q)⟩⟩,⟨fs,k5 f1' (Ne.symm nmf) hll.2.1,by rw[esucc];exact Paired.mapP f2' λ_ _ ⟨a,e,q⟩=>⟨a,e,kt9 (sJ2 _ _ q)⟩⟩,⟨ms++[V.ref p2],kh (kq bF (by rw[hll.2.2];decide)) (by rw[hll.2.2];decide),?_⟩,mv4.trans (mv9.sub (by simp))⟩
      ·rw[esucc]
       intro q w hw
       rcases YN hw with ⟨_,e7⟩|e7
       ·rw[e7]
        exact λz=>hI.nk _ _ hq1 (List.append_eq_nil_iff.mp z).1
       ·exact hI.nk q w e7
      ·rw[esucc]
       show Paired _ _ ((DE p i).M++[(sp,e2.2)])
       refine dJ (Paired.mapP m2 λ_ _ q=>q.to λc us hc=>kt9 (sJ2 _ _ hc)) ⟨p2,t,t2,rfl,kt9 c4,⟨t,rfl,kt9 (sJ2 _ _ ht)⟩,⟨t2,rfl,kt9 (b4 _ _ ht2)⟩⟩
   ·rintro⟨v4,v5,v6,rfl,hI⟩
    exact⟨v4,v5,v6,rfl,hI⟩
  rintro⟨v4,v5,v6,rfl,hI⟩
  walk_at "wp"
  obtain⟨ms,m1,m2⟩:=hI.mm
  rw[<-hspl] at hI m2
  exact q _ L0 mo ms hI.lp hI.ap m1 hll.2.2 m2 hI.mv
noncomputable def ZN (A:mI):Sp:=λvs H Q _=>∃(z:Ss) (s:St) (L:Lb) (pl fl sl sh0 h mk:Addr) (p:St) (bs:List Int) (k:List Key) (ms:List Bool),vs=[.ref z.p,.ref pl,.ref sh0,.ref h,.ref mk]/\Cx A H z s L pl fl sl p/\Ap p/\FF s < room s/\H sh0=some (.lst (bs.map V.int))/\L sh0=3/\bs.length<=640/\H h=some (.tup (k.map kV))/\uG k/\H mk=some (.lst (ms.map V.bl))/\L mk=5/\ms.length=s.fr.length/\
 ∀H' L' (s1 p1:St) (i:Nat) ps out (r w:Sh),wH s none ms s1 i ps out->r.b=bs->r.ks=[k]->w.ks=[k]->Cx A H' z {s1 with fr:=s1.fr.set i (some r)} L' pl fl sl {p1 with fr:=p1.fr.set i (some w)}->Ap {p1 with fr:=p1.fr.set i (some w)}->i < s1.fr.length->i < p1.fr.length->Zv [1,2,4] L L' H H'->Q (.int (i:Int)) H'
theorem HQ (T:bG K mg A):XG P w K mg base "_law_fresh" 8 ["_law_sheets","_law_plain","_law_sheet","_law_holder","_law_marks"] [] (ZN A):=by
 have D3:=W1 (P:=P) (w:=w) (base:=base) T
 have D4:=va (P:=P) (w:=w) (base:=base) T
 refine (T.Ey).have c0 (λvs H Q E z=>?_) ?_
 ·obtain⟨z,s,L,pl,fl,sl,sh0,h,mk,p,bs,k,ms,rfl,_⟩:=z;rfl
 ·intro f cdv A' outer s H vs Q E hr z
  obtain⟨z,s,L,pl,fl,sl,sh0,h,mk,p,bs,k,ms,rfl,hC,hAp,hroom,sh4,l4s,hbl,hh,htri,mk4,l4m,hml,q⟩:=z
  have hlen:=hC.len
  have h64:=hC.ss.len
  have z4:Zv [1,2,4] L L H H:=Zv.of sF
  have hz:=PySem.sizeLine_eq
  refine⟨_,(zF (qH (iI (pE 0) T.Ab D4 (hr.mono (by decide)) nF (sE (kO nP rfl T.Bd FB (sE (pE 2) zE)) (sE (pE 3) (sE (pE 4) zE)))))
   (zF (xF (i:=5) c0.nd rfl (Or.inl rfl) (IE CG (DG D3 (hr.mono (by decide)) nF (sE (pE 1) (sE (pE 4) (sE EE zE)))) EE (λ_ _=>rfl)))
   (zF (IH (lH (sE (pE 2) (sE (lH (sE (pE 3) zE)) (sE wF zE)))) (GH (IE eF (pE 1) EE (λ_ _=>rfl)) (pE 5) JH))
   (ME (KF (pE 5)))))),?_⟩
  refine⟨λσ G'=>∃s1 i ps out r,σ=[some (.ref z.p),some (.ref pl),some (.ref sh0),some (.ref h),some (.ref mk),none]/\wH s none (ms) s1 i ps out/\yE A.Aa A.Ad A.Ac G' z {s1 with fr:=s1.fr.set i (some r)}/\Ap {s1 with fr:=s1.fr.set i (some r)}/\Tw {s1 with fr:=s1.fr.set i (some r)}/\r.b=bs/\r.ks=[k]/\H r.bx=none/\Ks z H G',?_,λσ5 G5=>?_⟩
  ·obtain⟨dx9,h9⟩:=hC.ss.me
   walk_at "wp"
   refine⟨dx9,_,h9,UG (by decide+kernel),_,.inl (xE.of sh4),λl hl=>?_⟩
   obtain⟨b1,c1⟩:=UF (o:=.lst (bs.map V.int)) hl
   have b12:=b1
   refine⟨z,s,l,h,mk,bs,k,ms,rfl,hC.ss.same b12,hC.ap,hC.tw,c1,hC.ss.nf hl,b1 _ _ hh,b12 _ _ mk4,by omega,λr hr=>(hC.ok r (.inl hr)).1,?_⟩
   rw[iA hroom]
   intro H' s1 i ps out t e v3 r a1 a2 a3 a4 a5 a6 a7 a8 a9 a10 a11 a12
   exact⟨s1,i,ps,out,a1,r,a2,a3,a4,a5,a6,cG b12 a7,(Ks.of b12).trans a12⟩
  rintro⟨s1,i,ps,out,r,rfl,hF,S5,A5,T5,hrb,hrk,hrx,k5⟩
  have lr0:L r.bx=0:=ZC λe=>by
   obtain⟨us,h⟩:=hC.lp.q.lv _ e
   rw[hrx] at h;cases h
  have pm:=hF.alsF (r:=r) hC.tw
  have mem5:∀q,some q∈s1.fr.set i (some r)\/some q∈s1.sr->q=r\/some q∈s.fr\/some q∈s.sr:=λq hq=>(xA.mp (pm.mem_iff.mp (yH.mpr (show some q∈({s1 with fr:=s1.fr.set i (some r)}:St).fr\/some q∈({s1 with fr:=s1.fr.set i (some r)}:St).sr from hq)))).imp id yH.mp
  have z5:Zv [] L L H G5:=Zv.ks hC.ss S5 k5.kd hC.l0 hC.lp.q.lv (k5.dm hC.ss S5)
  have lp5:=hC.lp.zv z5 (hC.lp.q.lv.zv z5)
  have cs5:Cs A G5 z {s1 with fr:=s1.fr.set i (some r)} L:=⟨S5,hC.l0,λq hq=>(mem5 q hq).elim (λe=>by rw[e];exact lr0) (hC.lb q)⟩
  have hB5:Bx {s1 with fr:=s1.fr.set i (some r)}:=by
   refine (pm.map Sh.bx).nodup_iff.mpr (gB.mpr ⟨λhx=>?_,hC.bx⟩)
   obtain⟨q,hq,e⟩:=DB.mp hx
   have:=hC.ss.bxl (yH.mp hq)
   rw[e,hrx] at this;cases this
  have hok5:∀q,some q∈s1.fr.set i (some r)\/some q∈s1.sr->cJ q/\q.ks≠[]/\q.b.length<=640:=λq hq=>by
   rcases mem5 q hq with e|e
   ·rw[e]
    unfold cJ
    rw[hrk,hrb]
    exact⟨⟨by show 1 < 640;decide,by simp,λk' hk=>by rw[kA.mp hk];exact htri⟩,by simp,hbl⟩
   ·exact hC.ok q e
  have mk5:=(z5.lst mk4 l4m (by decide) (by simp)).1
  have sh5:=(z5.lst sh4 l4s (by decide) (by simp)).1
  have z05:Zv [1,2,4] L L H G5:=z4.trans (z5.sub (by simp))
  refine⟨λσ G'=>∃L6 p1 ps' out',σ=[some (.ref z.p),some (.ref pl),some (.ref sh0),some (.ref h),some (.ref mk),some (.int (i:Int))]/\rK p (some 0) (ms) p1 i ps' out'/\eG s1 p1/\Lp G' L6 pl fl sl p1/\Mv [1,2] L L6 G5 G',?_,λσ6 G6=>?_⟩
  ·walk_at "wp"
   have hhh:=hC.ss.hh
   refine⟨pl,fl,sl,mk,L,p,some 0,ms,rfl,lp5,mk5,by rw[l4m];decide,by omega,by rw[hC.si.h];omega,by omega,by omega,hC.okf,λe9 i9=>?_,λH' L' p1 i' ps' out' t e v3 a1 a2 a3 a4 a5 a6 a7 a8=>?_⟩
   ·rw[hC.si.slot,hlen.2]
    rw[hC.si.emf] at e9
    obtain⟨j,x1,x2⟩:=JU hC.tw hC.ss.lens.1 hC.ss.lens.2 hroom e9 (i:=i9) (c:=none)
    exact⟨j,aV x1,x2⟩
   ·obtain⟨rfl,rfl,hsim,_⟩:=hC.si.ffr hC.tw hC.lp.tw hF a1 λ_ _ h=>aV h
    exact⟨t,rfl,_,oF.of a4,.int i,HE (j:=0) rfl,rfl,L',p1,ps,out',a1,hsim,a2,a3⟩
  rintro⟨L6,p1,ps',out',rfl,hFl,hsim,lp6,m6⟩
  obtain⟨f1,f2,f3,f4,f5⟩:=hFl.facts hC.lp.tw
  have cs6:=cs5.mv m6 lp5.q.lv (by simp)
  have sh6:G6 sh0=_:=m6.kw _ _ sh5 (by rw[l4s];decide)
  have l6s:L6 sh0=3:=by rw[m6.lx.at sh5];exact l4s
  have hil1:=(aA.mp f1).1
  have hln6:=lp6.q.ln
  have z06:Zv [1,2,4] L L6 H G6:=z05.trans ((m6.zv lp5.q.lv (by simp)).sub (by simp))
  have A6:Ap p1:=by
   refine (hFl.hd λj q e=>?_).nodup_iff.mpr hAp
   rcases hFl with ⟨_,_,_,rfl⟩|⟨hem,q2,j2,_,_,_,x4,x5,_,rfl⟩
   ·cases e
   ·cases e
    rw[hC.si.slot] at x4
    rw[hC.si.emf] at hem
    obtain⟨j9,y1,_⟩:=JU hC.tw hC.ss.lens.1 hC.ss.lens.2 hroom hem (i:=i) (c:=none)
    have y2:=aV (c:=some 0) y1
    rw[x4] at y2
    obtain rfl:=cA y2
    rcases kQ hC.tw y1 with h|⟨h,_⟩
    ·obtain⟨y,hy1,hy2⟩:=BI hC.si.sr h
     cases y with
     |none=>exact hy1
     |some _=>exact hy2.elim
    ·cases h
  refine⟨λσ G'=>∃L7 w7,σ=[some (.ref z.p),some (.ref pl),some (.ref sh0),some (.ref h),some (.ref mk),some (.int (i:Int))]/\Cx A G' z {s1 with fr:=s1.fr.set i (some r)} L7 pl fl sl {p1 with fr:=p1.fr.set i (some w7)}/\Ap {p1 with fr:=p1.fr.set i (some w7)}/\w7.ks=[k]/\Zv [1,2,4] L L7 H G',?_,λσ7 G7=>?_⟩
  ·walk_at "wp"
   intro ha hha ra hra
   have q61:=lp6
   have m61:Mv [1,2] L6 L6 G6 G6:=Mv.of sF
   have sh61:=sh6
   have c1:G6 h=some (.tup (k.map kV)):=m6.kw _ _ (z5.tup hh) (by rw[lp5.q.lv.zero (z5.tup hh) λ_ z=>nomatch z];decide)
   obtain⟨b2,c2⟩:=UF (o:=.lst [V.ref h]) hha
   have hnin:ha∉GI p1:=λz9=>by obtain⟨us,h⟩:=q61.hdl z9;rw[hha] at h;cases h
   have q62:=q61.new (k:=4) (us:=[V.ref h]) hha
   have m62:Mv [1,2] L6 (lab L6 ha 4) G6 (upd G6 ha (.lst [V.ref h])):=Mv.new hha
   have l62:lab L6 ha 4 ha=4:=FH
   have l62s:lab L6 ha 4 sh0=3:=by rw[aH (NF sh61 hha)];exact l6s
   have sh62:=b2 _ _ sh61
   have c12:=b2 _ _ c1
   generalize upd G6 ha _=G62 at *
   generalize lab L6 ha 4=L62 at *
   obtain⟨b3,c3⟩:=UF (o:=.lst [V.ref sh0,V.ref ha,V.non]) hra
   have q63:=q62.new (k:=2) (us:=[V.ref sh0,V.ref ha,V.non]) hra
   have m63:Mv [1,2] L62 (lab L62 ra 2) G62 (upd G62 ra (.lst [V.ref sh0,V.ref ha,V.non])):=Mv.new hra
   have nl3:∀{c us k},G62 c=some (.lst us)->L62 c=k->lab L62 ra 2 c=k:=λhc hk=>by rw[aH (NF hc hra)];exact hk
   have hR:RF (upd G62 ra (.lst [V.ref sh0,V.ref ha,V.non])) (lab L62 ra 2) (.ref ra) (some ⟨bs,[k],ra,sh0,ha⟩) none:=⟨rfl,c3,b3 _ _ sh62,⟨[V.ref h],b3 _ _ c2,.cons ⟨h,rfl,b3 _ _ c12⟩ .nil⟩,FH,nl3 sh62 l62s,nl3 c2 l62⟩
   generalize upd G62 ra _=G63 at *
   generalize lab L62 ra 2=L63 at *
   obtain⟨us3,hf3,hul3,_⟩:=q63.q.hf
   have q7:=q63.q.frame (j:=i) hf3 hR
   have m7:Mv [1,2] L6 L63 G6 (upd G63 fl (.lst (us3.set i (.ref ra)))):=((m61.trans m62).trans m63).trans (Mv.set hf3 (by rw[q63.q.l1.2.1];simp))
   refine⟨_,xE.of q63.q.hp,_,HE (j:=0) rfl,fl,rfl,us3,hf3,i,DH (by omega),L63,⟨bs,[k],ra,sh0,ha⟩,?_,?_,rfl,z06.trans ((m7.zv lp6.q.lv (by simp)).sub (by simp))⟩
   ·have cs7:=cs6.mv m7 lp6.q.lv (by simp)
    have etf:p1.tf.set i none=p1.tf:=by
     obtain⟨o9,ho9⟩:∃o,p1.tf[i]?=some o:=⟨_,bA (by omega)⟩
     cases o9 with
     |some b=>exact absurd ho9 (f4 b)
     |none=>
      obtain⟨x1,x2⟩:=aA.mp ho9
      rw[<-x2,yB]
    rw[etf] at q7
    refine⟨cs7.ss,A5,T5,hB5,cs7.l0,cs7.lb,⟨q7.twins λi2 j2 h2=>?_,lp6.tw.fill f4⟩,⟨mK (show xG (some r) (some _) from ⟨hrb.symm,by rw[hrk]⟩) i hsim.fr,hsim.sr,hsim.tf,hsim.ts,hsim.h⟩,hok5⟩
    show jG (p1.fr.set i _) i2=jG p1.fr i2
    unfold jG
    rw[qA,fA (λe=>f4 j2 (by rw[e];exact lp6.tw.back i2 j2 h2))]
   ·unfold Ap
    show (iG (p1.fr.set i (some ⟨_,_,ra,sh0,ha⟩)++p1.sr)).Nodup
    rw[jH]
    refine ((nK (r:=⟨_,_,ra,sh0,ha⟩) f1).append_right _).nodup_iff.mpr ?_
    have e8:GI p1=iG p1.fr++iG p1.sr:=jH
    have A6':(GI p1).Nodup:=A6
    rw[e8] at hnin A6'
    exact gB.mpr ⟨hnin,A6'⟩
  rintro⟨L7,w7,rfl,C7,A7,hw7,z7⟩
  walk_at "wp"
  exact q G7 L7 s1 p1 i ps out r w7 hF hrb hrk hw7 C7 A7 (by have:=(hF.facts hC.tw).1;exact (aA.mp this).1) hil1 z7
noncomputable def twO (out:Option (Nat×Sh)) (j:Nat):Option Nat:=if out.map (·.1)=some j then none else some j
theorem Y2 {fr sr:List (Option Sh)} {i j:Nat} {c c':Sh} (hi:fr[i]?=some none) (hc:sr[j]?=some (some c)) (e:c'.hd=c.hd):(iG (fr.set i (some c')++sr.set j none)).Perm (iG (fr++sr)):=by
 rw[jH,jH]
 refine ((nK (r:=c') hi).append_right _).trans (List.Perm.trans ?_ ((WL hc).append_left _).symm)
 rw[e]
 exact YA.symm
theorem rK.apB {p p1:St} {ms:List Bool} {i j:Nat} {ps:List Int} {out:Option (Nat×Sh)} {c c':Sh} (h:rK p (some j) ms p1 i ps out) (hT:Tw p) (hA:Ap p) (hc:p.sr[j]?=some (some c)) (e:c'.hd=c.hd):Ap (rF p1 i j c' out):=by
 obtain⟨b1,b2,_⟩:=AN (s1:=p1) (i:=i) (j:=j) (c:=c') (out:=out)
 obtain⟨f1,_⟩:=h.facts hT
 unfold Ap
 rw[b1,b2]
 have h0:=h
 rcases h with ⟨h1,rfl,_,rfl⟩|⟨h1,q,j2,a,hsw,hq,hsf,hj,rfl,rfl⟩
 ·rw[fA (λz=>by cases z)]
  exact (Y2 f1 hc e).nodup_iff.mpr hA
 ·obtain⟨e1,e2,_⟩:=oK (s:={p with h:=(i+1) % p.fr.length}) (i:=i) (j:=j2) (r:={q with sh:=a})
  by_cases e9:j2=j
  ·subst e9
   rw[iA (show Option.map (λx:Nat×Sh=>x.1) (some (j2,q))=some j2 from rfl),e2,jH]
   rw[e1] at f1 ⊢
   have x2:(iG (p.sr.set j2 (some {q with sh:=a}))).Perm (q.hd::iG (p.sr.set j2 none)):=by
    have:=nK (r:={q with sh:=a}) (rows:=p.sr.set j2 none) (j:=j2) (EA hj)
    rw[RB] at this
    exact this
   refine (((nK (r:=c') f1).append x2).trans ?_).nodup_iff.mpr hA
   rw[jH]
   refine List.Perm.trans ?_ ((WL hq).append (WL hc)).symm
   rw[e]
   refine (List.Perm.cons _ YA).trans ((List.Perm.swap _ _ _).trans (List.Perm.cons _ YA.symm))
  ·rw[fA (show ¬Option.map (λx:Nat×Sh=>x.1) (some (j2,q))=some j from λz=>e9 (cA z))]
   have hn:p.sr[j2]?=some none:=by
    rcases kQ hT hsf with h|⟨h,_⟩
    ·exact h
    ·exact absurd (cA h).symm e9
   refine (Y2 f1 (c:=c) (by rw[e2,qA,fA e9];exact hc) e).nodup_iff.mpr ?_
   exact (h0.hd λj q z=>by cases z;exact hn).nodup_iff.mpr hA
noncomputable def aO (A:mI):Sp:=λvs H Q _=>∃(z:Ss) (s:St) (L:Lb) (pl fl sl m:Addr) (p:St) (j:Nat) (ms:List Bool) (c:Sh),vs=[.ref z.p,.ref pl,.int (j:Int),.ref m]/\Cx A H z s L pl fl sl p/\s.sr[j]?=some (some c)/\H m=some (.lst (ms.map V.bl))/\L m=5/\ms.length=s.fr.length/\
 ∀H' L' (s1 p1:St) (i:Nat) ps out out' a7,wH s (some j) ms s1 i ps out'->rK p (some j) ms p1 i ps out->Cx A H' z (rF s1 i j c out') L' pl fl sl (rF p1 i j a7 out)->(Ap p->Ap (rF p1 i j a7 out))->Zv [1,2] L L' H H'->Q .non H'
theorem IQ (T:bG K mg A):XG P w K mg base "_law_back" 8 ["_law_sheets","_law_plain","_law_slot","_law_marks"] [] (aO A):=by
 have D3:=W1 (P:=P) (w:=w) (base:=base) T
 have Ef:=BN (P:=P) (w:=w) (base:=base) T
 refine T.E8.have WP (λvs H Q E z=>?_) ?_
 ·obtain⟨z,s,L,pl,fl,sl,m,p,j,ms,c,rfl,_⟩:=z;rfl
 ·intro f cdv A' outer s H vs Q E hr z
  obtain⟨z,s,L,pl,fl,sl,m,p,j,ms,c,rfl,hC,hc,hm,hlm,hml,q⟩:=z
  have hlen:=hC.len
  have h64:=hC.ss.len
  have hhh:=hC.ss.hh
  obtain⟨w,hw,hwb,hwk⟩:=hC.si.ats hc
  obtain⟨ws,hs,hwl,hwj,hF⟩:=hC.lp.slot hw
  obtain⟨us,hf,hul,hrows⟩:=hC.lp.q.hf
  have hln:=hC.lp.q.ln
  obtain⟨_,w1,w2,w3,w4,w5,w6⟩:=id hF
  refine⟨_,(iF (xF (i:=4) WP.nd rfl (Or.inl rfl) (IE eF (IE eF (pE 1) EE (λ_ _=>rfl)) (pE 2) (λ_ _=>rfl)))
   (zF (qH (iI (pE 0) T.Ab Ef (hr.mono (by decide)) nF (sE (pE 2) (sE (pE 3) zE))))
   (zF (xF (i:=5) WP.nd rfl (Or.inl rfl) (DG D3 (hr.mono (by decide)) nF (sE (pE 1) (sE (pE 3) (sE (pE 2) zE)))))
   (iF (xF (i:=6) WP.nd rfl (Or.inl rfl) (pE 2))
   (zF (VF (PW.pt (hJ (BF cI (IE CG (pE 5) EE (λ_ _=>rfl)) wF (uE _)) (gJ (BF OI (IE CG (IE CG (pE 5) EE (λ_ _=>rfl)) EE (λ_ _=>rfl)) (pE 2) (uE _))))) (ME (xF (i:=6) WP.nd rfl (Or.inl rfl) wF)) (ME (IH (lH (sE (IE eF (pE 4) EE (λ_ _=>rfl)) (sE (lH zE) (sE (IE CG (pE 5) EE (λ_ _=>rfl)) zE)))) (GH (IE eF (pE 1) EE (λ_ _=>rfl)) (pE 2) JH))))
   (ME (IH (lH (sE (IE eF (pE 4) EE (λ_ _=>rfl)) (sE (IE eF (pE 4) EE (λ_ _=>rfl)) (sE (pE 6) zE)))) (GH (IE eF (pE 1) EE (λ_ _=>rfl)) (IE CG (pE 5) EE (λ_ _=>rfl)) JH)))))))),?_⟩
  walk_at "wp"
  refine⟨_,xE.of hC.lp.q.hp,_,HE (j:=1) rfl,sl,rfl,_,xE.of hs,_,HE hwj,?_⟩
  refine⟨λσ G=>σ=[some (.ref z.p),some (.ref pl),some (.int (j:Int)),some (.ref m),some (.ref w.sh),none,none]/\∃s1 i' ps' out',wH s (some j) ms s1 i' ps' out'/\yE A.Aa A.Ad A.Ac G z (rF s1 i' j c out')/\Ap (rF s1 i' j c out')/\Tw (rF s1 i' j c out')/\Ks z H G,?_,λσ1 G1=>?_⟩
  ·obtain⟨dx9,h9⟩:=hC.ss.me
   walk_at "wp"
   refine⟨dx9,_,h9,UG (by decide+kernel),z,s,j,m,ms,c,rfl,hC.ss,hC.ap,hC.tw,hm,hml,λr hr=>(hC.ok r (.inl hr)).1,hc,λH' s1 i' ps' out' t' e' v3' a1 a2 a3 a4 a5 a6 a7 a8 a9=>?_⟩
   exact⟨s1,i',ps',out',a1,a2,a3,a4,a9⟩
  rintro⟨rfl,s1,i',ps',out',hFs,S9,A9,T9,k9⟩
  have z1:Zv [] L L H G1:=Zv.ks hC.ss S9 k9.kd hC.l0 hC.lp.q.lv (k9.dm hC.ss S9)
  have lp1:=hC.lp.zv z1 (hC.lp.q.lv.zv z1)
  have pm:=hFs.alsB hC.tw hc
  have mem9:∀r,some r∈(rF s1 i' j c out').fr\/some r∈(rF s1 i' j c out').sr->some r∈s.fr\/some r∈s.sr:=λr hr=>yH.mp (pm.mem_iff.mp (yH.mpr hr))
  have cs1:Cs A G1 z (rF s1 i' j c out') L:=⟨S9,hC.l0,λr hr=>hC.lb r (mem9 r hr)⟩
  obtain⟨hm1,_⟩:=z1.lst hm hlm (by decide) (by simp)
  obtain⟨w1',_⟩:=z1.lst w1 w4 (by decide) (by simp)
  refine⟨λσ G=>∃La2 p1 i ps out t e v3,σ=[some (.ref z.p),some (.ref pl),some (.int (j:Int)),some (.ref m),some (.ref w.sh),some (.ref t),none]/\rK p (some j) ms p1 i ps out/\Lp G La2 pl fl sl p1/\Mv [1,2] L La2 G1 G/\G t=some (.tup [.int (i:Int),.ref e,v3])/\G e=some (.lst (ps.map V.int))/\fJ G La2 v3 out/\La2 e=5/\Sk p G1 G,?_,λσ2 G2=>?_⟩
  ·walk_at "wp"
   refine⟨pl,fl,sl,m,L,p,some j,ms,rfl,lp1,hm1,by rw[hlm];decide,by omega,by rw[hC.si.h];omega,by omega,by omega,hC.okf,λe9 i=>?_,λH' L' p1 i ps out t e v3 a1 a2 a3 a4 a5 a6 a7 a8=>?_⟩
   ·rw[hC.si.slot,hlen.2]
    exact IU hC.tw hC.ss.lens.2 λ_ _=>⟨j,rfl,(aA.mp hc).1⟩
   ·exact⟨L',p1,i,ps,out,t,rfl,a1,a2,a3,e,v3,a4,a5,a6,a7,a8⟩
  rintro⟨La2,p1,i,ps,out,t,e,v3,rfl,hFf,hL2,m2,ht2,he2,ho2,hle2,sk2⟩
  obtain⟨ei,ep,hsim,hos⟩:=hC.si.ffr hC.tw hC.lp.tw hFs hFf λ_ _ h=>h
  have ei:i'=i:=by first|exact ei|exact ei.symm
  have ep:ps'=ps:=by first|exact ep|exact ep.symm
  rw[ei,ep] at hFs
  rw[ei] at S9 A9 T9 mem9 pm
  have cs1:Cs A G1 z (rF s1 i j c out') L:=by rw[<-ei];exact cs1
  have cs2:=cs1.mv m2 lp1.q.lv (by simp)
  obtain⟨f1,f2,f3,f4,f5⟩:=hFf.facts hC.lp.tw
  have z2:Zv [1,2] L La2 H G2:=(z1.sub (by simp)).trans (m2.zv lp1.q.lv (by simp))
  have hw2:G2 w.sh=some (.lst [.ref w.bx,.ref w.hd,oV none]):=(sk2 j w hw).trans w1'
  have hwl2:La2 w.sh=2:=by rw[m2.lx.at w1'];exact w4
  have wb2:=z2.lst w2 w5 (by decide) (by decide)
  have wh2:VH G2 w.hd w.ks/\La2 w.hd=4:=by
   obtain⟨ls,x1,x2⟩:=w3
   obtain⟨y1,y2⟩:=z2.lst x1 w6 (by decide) (by decide)
   exact⟨⟨ls,y1,Paired.mapP x2 λ_ _ ⟨a,e,q⟩=>⟨a,e,z2.tup q⟩⟩,y2⟩
  have tn1:∀j',p1.ts[j']?≠some (some i):=λj' h=>f4 j' (hL2.tw.back i j' h)
  have hln1:=hL2.q.ln
  have q5:=hL2.q
  have lv5:=hL2.q.lv
  walk_at "wp"
  refine⟨λσ G=>∃L6,σ=[some (.ref z.p),some (.ref pl),some (.int (j:Int)),some (.ref m),some (.ref w.sh),some (.ref t),some (oV (twO out j))]/\Lq G L6 pl fl sl p1.h p1.fr (if out.map (·.1)=some j then p1.sr else p1.sr.set j none) p1.tf (if out.map (·.1)=some j then p1.ts else p1.ts.set j (some i)) (λx=>if x=i then w.b else jG p1.fr x)/\Mv [1] La2 L6 G2 G,?_,λσ6 G6=>?_⟩
  ·have q5b:=q5.twins (B':=λx=>if x=i then w.b else jG p1.fr x) λi2 j2 h2=>by
    show (if i2=i then w.b else jG p1.fr i2)=_
    rw[fA (λe=>tn1 j2 (by rw[<-e];exact h2))]
   walk_at "wp"
   refine⟨_,oF.of ht2,v3,HE (j:=2) rfl,?_⟩
   by_cases c9:out.map (·.1)=some j
   ·cases out with
    |none=>cases c9
    |some x=>
     obtain⟨j2,q2⟩:=x
     obtain⟨o2,l2,rfl,d1,d2,d3⟩:=id ho2
     have ej:j2=j:=cA c9
     refine EI (by rw[vA (λz=>nomatch z)];rfl) ⟨_,oF.of ht2,_,HE (j:=2) rfl,o2,rfl,_,oF.of d1,.int j2,HE (j:=0) rfl,rfl,?_⟩
     rw[iA (by rw[ej]),iA c9,iA c9]
     exact⟨by unfold twO;rw[iA c9];rfl,La2,q5b,Mv.of sF⟩
   rw[fA c9,fA c9]
   have go:v3=.non\/∃(o2 l2:Addr) (j2:Nat),v3=.ref o2/\G2 o2=some (.tup [.int (j2:Int),.ref l2])/\¬(V.int (j2:Int)=V.int (j:Int)):=by
    cases out with
    |none=>exact .inl ho2
    |some x=>
     obtain⟨j2,q2⟩:=x
     obtain⟨o2,l2,e0,d1,d2,d3⟩:=id ho2
     refine .inr ⟨o2,l2,j2,e0,d1,λz=>c9 ?_⟩
     have:(j2:Int)=j:=V.int.inj z
     show some j2=some j
     rw[show j2=j by omega]
   rcases go with rfl|⟨o2,l2,j2,rfl,d1,nj⟩
   ·refine KJ (by rw[AA rfl];rfl) ?_
    rw[fA oA]
    refine⟨_,xE.of hw2,_,HE (j:=0) rfl,λea hea=>?_⟩
    obtain⟨b1,c1⟩:=UF (o:=.lst []) hea
    have q51:=q5b.new (k:=4) (us:=[]) hea
    have m51:Mv [1] La2 (lab La2 ea 4) G2 (upd G2 ea (.lst [])):=Mv.new hea
    have e51:lab La2 ea 4 ea=4:=FH
    have x51:lab La2 ea 4 w.bx=3:=by rw[aH (NF wb2.1 hea)];exact wb2.2
    have t51:=b1 _ _ ht2
    have y51:=b1 _ _ wb2.1
    generalize upd G2 ea _=G51 at *
    generalize lab La2 ea 4=L51 at *
    refine⟨_,oF.of t51,.int i,HE (j:=0) rfl,λra hra=>?_⟩
    obtain⟨b2,c2⟩:=UF (o:=.lst [V.ref w.bx,V.ref ea,V.int (i:Int)]) hra
    have q52:=q51.new (k:=2) (us:=[V.ref w.bx,V.ref ea,V.int (i:Int)]) hra
    have m52:Mv [1] L51 (lab L51 ra 2) G51 (upd G51 ra (.lst [V.ref w.bx,V.ref ea,V.int (i:Int)])):=Mv.new hra
    have hS:RS (upd G51 ra (.lst [V.ref w.bx,V.ref ea,V.int (i:Int)])) (lab L51 ra 2) (λx=>if x=i then w.b else jG p1.fr x) (.ref ra) none (some i):=⟨ra,w.bx,ea,rfl,c2,by show _=some (HO.lst ((if i=i then w.b else jG p1.fr i).map V.int));rw[iA rfl];exact b2 _ _ y51,b2 _ _ c1,FH,by rw[aH (NF y51 hra)];exact x51,by rw[aH (NF c1 hra)];exact e51⟩
    generalize upd G51 ra _=G52 at *
    generalize lab L51 ra 2=L52 at *
    obtain⟨ws2,hs2,hwl2',_⟩:=q52.hs
    have hjl2:j < p1.sr.length:=by rw[f3];exact (aA.mp hw).1
    exact⟨_,xE.of q52.hp,_,HE (j:=1) rfl,sl,rfl,ws2,hs2,j,DH (by omega),(by unfold twO;rw[fA c9];rfl),L52,q52.slot (j:=j) hs2 hS,(m51.trans m52).trans (Mv.set hs2 (by rw[q52.l1.2.2];simp))⟩
   ·refine EI (by rw[vA (λz=>nomatch z)];rfl) ⟨_,oF.of ht2,_,HE (j:=2) rfl,o2,rfl,_,oF.of d1,.int j2,HE (j:=0) rfl,rfl,?_⟩
    rw[fA nj]
    refine⟨_,xE.of hw2,_,HE (j:=0) rfl,λea hea=>?_⟩
    obtain⟨b1,c1⟩:=UF (o:=.lst []) hea
    have q51:=q5b.new (k:=4) (us:=[]) hea
    have m51:Mv [1] La2 (lab La2 ea 4) G2 (upd G2 ea (.lst [])):=Mv.new hea
    have e51:lab La2 ea 4 ea=4:=FH
    have x51:lab La2 ea 4 w.bx=3:=by rw[aH (NF wb2.1 hea)];exact wb2.2
    have t51:=b1 _ _ ht2
    have y51:=b1 _ _ wb2.1
    generalize upd G2 ea _=G51 at *
    generalize lab La2 ea 4=L51 at *
    refine⟨_,oF.of t51,.int i,HE (j:=0) rfl,λra hra=>?_⟩
    obtain⟨b2,c2⟩:=UF (o:=.lst [V.ref w.bx,V.ref ea,V.int (i:Int)]) hra
    have q52:=q51.new (k:=2) (us:=[V.ref w.bx,V.ref ea,V.int (i:Int)]) hra
    have m52:Mv [1] L51 (lab L51 ra 2) G51 (upd G51 ra (.lst [V.ref w.bx,V.ref ea,V.int (i:Int)])):=Mv.new hra
    have hS:RS (upd G51 ra (.lst [V.ref w.bx,V.ref ea,V.int (i:Int)])) (lab L51 ra 2) (λx=>if x=i then w.b else jG p1.fr x) (.ref ra) none (some i):=⟨ra,w.bx,ea,rfl,c2,by show _=some (HO.lst ((if i=i then w.b else jG p1.fr i).map V.int));rw[iA rfl];exact b2 _ _ y51,b2 _ _ c1,FH,by rw[aH (NF y51 hra)];exact x51,by rw[aH (NF c1 hra)];exact e51⟩
    generalize upd G51 ra _=G52 at *
    generalize lab L51 ra 2=L52 at *
    obtain⟨ws2,hs2,hwl2',_⟩:=q52.hs
    have hjl2:j < p1.sr.length:=by rw[f3];exact (aA.mp hw).1
    exact⟨_,xE.of q52.hp,_,HE (j:=1) rfl,sl,rfl,ws2,hs2,j,DH (by omega),(by unfold twO;rw[fA c9];rfl),L52,q52.slot (j:=j) hs2 hS,(m51.trans m52).trans (Mv.set hs2 (by rw[q52.l1.2.2];simp))⟩
  rintro⟨L6,rfl,q6,m6⟩
  have hil1:=(aA.mp f1).1
  have k6:∀{c us k},G2 c=some (.lst us)->La2 c=k->k≠1->G6 c=some (.lst us)/\L6 c=k:=λhc hk hn=>⟨m6.kw _ _ hc (by rw[hk];simp;exact hn),by rw[m6.lx.at hc];exact hk⟩
  obtain⟨hw6,hwl6⟩:=k6 hw2 hwl2 (by decide)
  obtain⟨wb6,wbl6⟩:=k6 wb2.1 wb2.2 (by decide)
  have ht6:G6 t=_:=m6.kw _ _ ht2 (by rw[lv5.zero ht2 λ_ z=>nomatch z];simp)
  have wh6:VH G6 w.hd w.ks/\L6 w.hd=4:=by
   obtain⟨⟨ls,x1,x2⟩,x3⟩:=wh2
   obtain⟨y1,y2⟩:=k6 x1 x3 (by decide)
   exact⟨⟨ls,y1,Paired.mapP x2 λ_ _ ⟨a,e,q⟩=>⟨a,e,m6.kw _ _ q (by rw[lv5.zero q λ_ z=>nomatch z];simp)⟩⟩,y2⟩
  walk_at "wp"
  refine⟨_,xE.of hw6,_,HE (j:=0) rfl,_,xE.of hw6,_,HE (j:=1) rfl,λa7 ha7=>?_⟩
  obtain⟨b1,c1⟩:=UF (o:=.lst [V.ref w.bx,V.ref w.hd,oV (twO out j)]) ha7
  have q61:=q6.new (k:=2) (us:=[V.ref w.bx,V.ref w.hd,oV (twO out j)]) ha7
  have m61:Mv [1] L6 (lab L6 a7 2) G6 (upd G6 a7 (.lst [V.ref w.bx,V.ref w.hd,oV (twO out j)])):=Mv.new ha7
  have hR:RF (upd G6 a7 (.lst [V.ref w.bx,V.ref w.hd,oV (twO out j)])) (lab L6 a7 2) (.ref a7) (some {w with sh:=a7}) (twO out j):=⟨rfl,c1,b1 _ _ wb6,wh6.1.same b1,FH,by rw[aH (NF wb6 ha7)];exact wbl6,by obtain⟨⟨ls,x1,x2⟩,x3⟩:=wh6;rw[aH (NF x1 ha7)];exact x3⟩
  have t61:=b1 _ _ ht6
  generalize upd G6 a7 _=G61 at *
  generalize lab L6 a7 2=L61 at *
  obtain⟨us2,hf2,hul2,_⟩:=q61.hf
  refine⟨_,xE.of q61.hp,_,HE (j:=0) rfl,_,oF.of t61,.int i,HE (j:=0) rfl,fl,rfl,us2,(i:Int),rfl,hf2,i,DH (by omega),?_⟩
  have m7:Mv [1] La2 L61 G2 (upd G61 fl (.lst (us2.set i (V.ref a7)))):=(m6.trans m61).trans (Mv.set hf2 (by rw[q61.l1.2.1];simp))
  have q7':Lq (upd G61 fl (.lst (us2.set i (V.ref a7)))) L61 pl fl sl (rF p1 i j {w with sh:=a7} out).h (rF p1 i j {w with sh:=a7} out).fr (rF p1 i j {w with sh:=a7} out).sr (rF p1 i j {w with sh:=a7} out).tf (rF p1 i j {w with sh:=a7} out).ts (jG (rF p1 i j {w with sh:=a7} out).fr):=by
   have q7:=q61.frame (j:=i) hf2 hR
   obtain⟨d1,d2,d3,d4,d5,_⟩:=AN (s1:=p1) (i:=i) (j:=j) (c:={w with sh:=a7}) (out:=out)
   rw[d1,d2,d3,d4,d5]
   have etf:p1.tf.set i (twO out j)=if out.map (·.1)=some j then p1.tf else p1.tf.set i (some j):=by
    unfold twO
    split
    ·obtain⟨o9,ho9⟩:∃o,p1.tf[i]?=some o:=⟨_,bA (by omega)⟩
     cases o9 with
     |some b=>exact absurd ho9 (f4 b)
     |none=>
      obtain⟨x1,x2⟩:=aA.mp ho9
      rw[<-x2,yB]
    ·rfl
   rw[etf] at q7
   refine q7.twins λi2 j2 h2=>?_
   show jG (p1.fr.set i (some {w with sh:=a7})) i2=if i2=i then w.b else jG p1.fr i2
   unfold jG
   rw[qA]
   by_cases e9:i2=i
   ·rw[iA e9,iA e9.symm,iA hil1]
   ·rw[fA e9,fA (λe=>e9 e.symm)]
  have cs7:=cs2.mv m7 hL2.q.lv (by simp)
  have si9:=hsim.back (i:=i) (j:=j) (q:=c) (q':={w with sh:=a7}) hos hwb hwk
  exact q _ L61 s1 p1 i ps out out' {w with sh:=a7} hFs hFf ⟨cs7.ss,A9,T9,(pm.map Sh.bx).nodup_iff.mpr hC.bx,cs7.l0,cs7.lb,⟨q7',si9.tw T9⟩,si9,λr hr=>hC.ok r (mem9 r hr)⟩ (λhA=>hFf.apB hC.lp.tw hA hw rfl) (z2.trans ((m7.zv hL2.q.lv (by simp)).sub (by simp)))
noncomputable def tI (s:St):List (List Key):=(WE s).flatMap Sh.ks
structure Me (n m t:Nat) (s:St):Prop where
 fr:s.fr.length=n
 sr:s.sr.length=m
 nd:(tI s).Nodup
 tri:∀k∈tI s,uG k
 old:∀k∈tI s,∃y:Nat,k[2]?=some (.inl (y:Int))/\(y < t\/(100<=y/\y < 100+t))
 few:(tI s).length<=2 * t
 two:∀r∈WE s,r.b.length=2
theorem iM {p:Sh->Bool}:∀{l:List Sh},((l.filter p).flatMap Sh.ks).length<=(l.flatMap Sh.ks).length
 |[]=>pA _
 |x::l=>by
  have ih:=iM (p:=p) (l:=l)
  rw[gC,SA,nA]
  split
  ·rw[SA,nA];omega
  ·omega
theorem Me.fi {n m t:Nat} {s:St} (h:Me n m t s) (ht:t<=100):Fi s 0 ⟨[],s,[]⟩:=by
 refine⟨rfl,rfl,λe he=>(lB he).elim,h.nd,h.tri,λb=>?_,pA _,pA _⟩
 have h1:=iM (p:=λr=>decide (r.b=b)) (l:=WE s)
 have h2:((WE s).flatMap Sh.ks).length<=2 * t:=h.few
 show (((WE s).filter λr=>decide (r.b=b)).flatMap Sh.ks).length < 640
 omega
theorem Me.pm {n m t:Nat} {s s':St} (h:Me n m t s) (e:(WE s').Perm (WE s)) (h1:s'.fr.length=s.fr.length) (h2:s'.sr.length=s.sr.length):Me n m t s':=by
 have pk:(tI s').Perm (tI s):=e.flatMap_right Sh.ks
 exact⟨h1.trans h.fr,h2.trans h.sr,pk.nodup_iff.mpr h.nd,λk hk=>h.tri k (pk.mem_iff.mp hk),λk hk=>h.old k (pk.mem_iff.mp hk),by rw[pk.length_eq];exact h.few,λr hr=>h.two r (e.mem_iff.mp hr)⟩
theorem Me.fresh {n m t:Nat} {s:St} (h:Me n m t s) (ht:t < 100) {w:Str} {x:Int} {y:Nat} (hy:y=t\/y=100+t):[.inr w,.inl x,.inl (y:Int)]∉tI s:=λhk=>by
 obtain⟨y',e,ho⟩:=h.old _ hk
 have e:(some (.inl (y:Int)):Option Key)=some (.inl (y':Int)):=e
 have:(y:Int)=y':=mD (cA e)
 omega
theorem Me.add {n m t:Nat} {s s':St} {r:Sh} (h:Me n m t s) (ht:t < 100) (e:(WE s').Perm (r::WE s)) (h1:s'.fr.length=s.fr.length) (h2:s'.sr.length=s.sr.length) (hb:r.b.length=2) {w:Str} {x:Int} (hk:r.ks=[[.inr w,.inl x,.inl (t:Int)]]\/∃(w':Str) (x':Int),r.ks=[[.inr w,.inl x,.inl (t:Int)],[.inr w',.inl x',.inl ((100+t:Nat):Int)]]):Me n m (t+1) s':=by
 have pk:(tI s').Perm (r.ks++tI s):=by
  have:=e.flatMap_right Sh.ks
  rw[SA] at this
  exact this
 have hin:∀k∈r.ks,uG k/\∃y:Nat,k[2]?=some (.inl (y:Int))/\(y=t\/y=100+t)/\k∉tI s:=λk hk9=>by
  rcases hk with e1|⟨w',x',e1⟩
  ·rw[e1] at hk9
   rw[kA.mp hk9]
   exact⟨⟨_,_,_,rfl⟩,t,rfl,.inl rfl,h.fresh ht (.inl rfl)⟩
  ·rw[e1] at hk9
   rcases xA.mp hk9 with rfl|hk9
   ·exact⟨⟨_,_,_,rfl⟩,t,rfl,.inl rfl,h.fresh ht (.inl rfl)⟩
   ·rw[kA.mp hk9]
    exact⟨⟨_,_,_,rfl⟩,100+t,rfl,.inr rfl,h.fresh ht (.inr rfl)⟩
 have hn:r.ks.Nodup:=by
  rcases hk with e1|⟨w',x',e1⟩
  ·rw[e1];simp
  ·rw[e1]
   refine gB.mpr ⟨λz=>?_,by simp⟩
   have z:=kA.mp z
   injection z with _ z
   injection z with _ z
   injection z with z _
   have:(t:Int)=((100+t:Nat):Int):=mD z
   omega
 have hl:r.ks.length<=2:=by
  rcases hk with e1|⟨w',x',e1⟩
  ·rw[e1];show 1<=2;decide
  ·rw[e1];exact pA _
 have hfew:=h.few
 refine⟨h1.trans h.fr,h2.trans h.sr,pk.nodup_iff.mpr (fB.mpr ⟨hn,h.nd,λa ha b hb e=>?_⟩),λk hk=>?_,λk hk=>?_,by rw[pk.length_eq,nA];omega,λq hq=>?_⟩
 ·obtain⟨_,_,_,_,h9⟩:=hin a ha
  exact h9 (by rw[e];exact hb)
 ·rcases GA.mp (pk.mem_iff.mp hk) with h9|h9
  ·exact (hin k h9).1
  ·exact h.tri k h9
 ·rcases GA.mp (pk.mem_iff.mp hk) with h9|h9
  ·obtain⟨_,y,y1,y2,_⟩:=hin k h9
   exact⟨y,y1,by omega⟩
  ·obtain⟨y,y1,y2⟩:=h.old k h9
   exact⟨y,y1,by omega⟩
 ·rcases xA.mp (e.mem_iff.mp hq) with rfl|h9
  ·exact hb
  ·exact h.two q h9
theorem kb {s:St} {f f':Bool} {j j':Nat} {r q:Sh}:(ZG s f j f' j' r q).h=s.h/\(ZG s f j f' j' r q).go=s.go/\(ZG s f j f' j' r q).ga=s.ga/\(ZG s f j f' j' r q).cb=s.cb:=by
 unfold ZG LF
 obtain⟨_,_,u1,u2,u3,u4⟩:=oJ (s:=(s.put f' j' (some (FG q (JF r.ks)))).put true j none) (i:=j)
 cases f<;>cases f'<;>simp only[RC,QA,HB]<;>first|exact⟨rfl,rfl,rfl,rfl⟩|exact⟨u1,u2,u3,u4⟩
structure bO (s x:St):Prop where
 ky:(tI x).Perm (tI s)
 bx:∀r∈WE x,∃r0∈WE s,r.b=r0.b
 ad:∃l,((WE x).map Sh.bx++l).Perm ((WE s).map Sh.bx)
 ne:(∀r∈WE s,r.ks≠[])->∀r∈WE x,r.ks≠[]
 h:x.h=s.h
 go:x.go=s.go
 ga:x.ga=s.ga
 cb:x.cb=s.cb
theorem bO.step {s0:St} {i:Nat} {x:Fs} {p:Bool×Nat} (h:Fi s0 i x) (hp:(spA s0)[i]?=some p) (k:bO s0 x.s):bO s0 (GG x p).s:=by
 unfold GG
 cases e1:AF x.s p with
 |none=>exact k
 |some r=>
  show bO s0 (if nI r.ks=true then x else _).s
  split
  ·exact k
  ·cases e2:x.F.find? λe=>decide (e.1=r.b) with
   |none=>exact k
   |some e=>
    have heF:=PB e2
    obtain⟨⟨q,hq,hqb,hqn⟩,a,ha,e9⟩:=h.first e heF
    show bO s0 (match AF x.s e.2 with|none=>x|some q=>{x with s:=ZG x.s p.1 p.2 e.2.1 e.2.2 r q,M:=x.M++[(p,e.2)]}).s
    rw[hq]
    have hne:¬(p.1=e.2.1/\p.2=e.2.2):=λz=>by
     have ep:e.2=p:=eE z.1.symm z.2.symm
     rw[ep] at e9
     obtain⟨y1,y2⟩:=aA.mp e9
     obtain⟨y3,y4⟩:=aA.mp hp
     exact (cB.mp (eS (s:=s0))) a i y1 y3 ha (y2.trans y4.symm)
    have pm:=YU (eJ e1) (eJ hq) hne
    have pmk:(tI x.s).Perm (tI (ZG x.s p.1 p.2 e.2.1 e.2.2 r q)):=by
     have p9:=pm.flatMap_right Sh.ks
     rw[SA,SA,SA] at p9
     have p9:((q.ks++JF r.ks)++(WE x.s).flatMap Sh.ks).Perm (q.ks++(r.ks++(WE (ZG x.s p.1 p.2 e.2.1 e.2.2 r q)).flatMap Sh.ks)):=p9
     rw[KA] at p9
     have p8:=(uC _).mp p9
     exact (uC _).mp ((DI.symm.append_right _).trans p8)
    have hqm:q∈WE x.s:=by
     have h9:=eJ hq
     rw[yH]
     cases e8:e.2.1 with
     |true=>rw[e8] at h9;exact .inl (dA h9)
     |false=>rw[e8] at h9;exact .inr (dA h9)
    obtain⟨o1,o2,o3,o4⟩:=kb (s:=x.s) (f:=p.1) (j:=p.2) (f':=e.2.1) (j':=e.2.2) (r:=r) (q:=q)
    refine⟨pmk.symm.trans k.ky,λr' hr'=>?_,?_,λhn r' hr'=>?_,o1.trans k.h,o2.trans k.go,o3.trans k.ga,o4.trans k.cb⟩
    ·have h9:r'∈FG q (JF r.ks)::WE x.s:=pm.mem_iff.mpr (jA _ (jA _ hr'))
     rcases xA.mp h9 with rfl|h9
     ·exact k.bx q hqm
     ·exact k.bx r' h9
    ·obtain⟨l,hl⟩:=k.ad
     have p9:=pm.map Sh.bx
     rw[CA,CA,CA] at p9
     have p8:((WE x.s).map Sh.bx).Perm (r.bx::(WE (ZG x.s p.1 p.2 e.2.1 e.2.2 r q)).map Sh.bx):=(List.perm_cons q.bx).mp p9
     exact⟨r.bx::l,(YA.trans ((p8.symm.append_right l))).trans hl⟩
    ·have h9:r'∈FG q (JF r.ks)::WE x.s:=pm.mem_iff.mpr (jA _ (jA _ hr'))
     rcases xA.mp h9 with rfl|h9
     ·exact λz=>k.ne hn q hqm (List.append_eq_nil_iff.mp z).1
     ·exact k.ne hn r' h9
theorem eV {s:St} (h:Fi s 0 ⟨[],s,[]⟩):∀i,i<=(spA s).length->bO s (aF s i).s
 |0,_=>⟨rB _,λr hr=>⟨r,hr,rfl⟩,⟨[],by rw[wC];exact rB _⟩,λh=>h,rfl,rfl,rfl,rfl⟩
 |i+1,hi=>by
  obtain⟨p,hp⟩:∃p,(spA s)[i]?=some p:=⟨_,bA (by omega)⟩
  rw[WU hp]
  exact bO.step (jS h i (by omega)) hp (eV h i (by omega))
theorem Me.fold {n m t:Nat} {s:St} (h:Me n m t s) (ht:t<=100):Me n m t (OE s).s:=by
 have hf:=jS (h.fi ht) (spA s).length (pA _)
 have hk:=eV (h.fi ht) (spA s).length (pA _)
 refine⟨hf.fr.trans h.fr,hf.sr.trans h.sr,hk.ky.nodup_iff.mpr h.nd,λk hk9=>h.tri k (hk.ky.mem_iff.mp hk9),λk hk9=>h.old k (hk.ky.mem_iff.mp hk9),by show (tI (aF s (spA s).length).s).length<=2 * t;rw[hk.ky.length_eq];exact h.few,λr hr=>?_⟩
 obtain⟨r0,h1,h2⟩:=hk.bx r hr
 rw[h2];exact h.two r0 h1
noncomputable def eO (A:mI):Sp:=λvs H Q _=>∃(z:Ss) (s:St) (L:Lb) (pl fl sl:Addr) (p:St) (n m t:Nat),vs=[.ref z.p,.ref pl]/\Cx A H z s L pl fl sl p/\Ap p/\Me n m t s/\t<=100/\∀H' L' p',Cx A H' z (OE s).s L' pl fl sl p'->Ap p'->Zv [1,4] L L' H H'->Q (.bl true) H'
noncomputable def jM (m:(Bool×Nat)×(Bool×Nat)):Dv:=.seq true [sK m.1,sK m.2]
theorem Z2 {H:Hp} {v:V} {p:Bool×Nat} (h:EH H v p):SF H (sK p) v:=by
 obtain⟨a,e,h⟩:=h
 unfold sK MK
 simp only[CA,dC]
 unfold SF
 refine⟨a,_,e,by rw[iA rfl];exact h,by show 2 < 16777216;decide,?_⟩
 unfold QE
 refine⟨_,_,rfl,by unfold SF;exact⟨rfl,rfl⟩,?_⟩
 unfold QE
 refine⟨_,_,rfl,by unfold SF;exact⟨rfl,rfl⟩,?_⟩
 unfold QE
 rfl
theorem gO {H:Hp} {v:V} {m:(Bool×Nat)×(Bool×Nat)} (h:qK H v m):SF H (jM m) v:=by
 obtain⟨a,t1,t2,e,h1,h2,h3⟩:=h
 unfold jM SF
 refine⟨a,_,e,by rw[iA rfl];exact h1,by show 2 < 16777216;decide,?_⟩
 unfold QE
 refine⟨_,_,rfl,Z2 h2,?_⟩
 unfold QE
 refine⟨_,_,rfl,Z2 h3,?_⟩
 unfold QE
 rfl
theorem fV {H:Hp}:∀{us:List V} {M:List ((Bool×Nat)×(Bool×Nat))},Paired (qK H) us M->QE H (M.map jM) us
 |_,_,.nil=>by unfold QE;rfl
 |_,_,.cons h r=>by
  rw[CA]
  unfold QE
  exact⟨_,_,rfl,gO h,fV r⟩
theorem i3:∀(M:List ((Bool×Nat)×(Bool×Nat))),GE (M.map jM)<=2
 |[]=>by rw[dC];unfold GE;omega
 |m::M=>by
  rw[CA]
  unfold GE
  have h1:=i3 M
  have h2:vF (jM m)=2:=by
   have e1:∀p,vF (sK p)=1:=λp=>by unfold sK vF;rw[XS]
   unfold jM vF GE GE GE
   rw[e1,e1]
   rfl
  omega
noncomputable def JQ (h go ga cb:Int):Dv:=.seq true [.leaf (.int h),.seq true [.leaf (.int go),.leaf (.int ga),.leaf (.int cb)]]
theorem pb {h go ga cb:Int}:vF (JQ h go ga cb)<=4:=by unfold JQ;simp[vF,GE]
theorem K3 {H:Hp} {a m:Addr} {h go ga cb:Int} (h1:H a=some (.tup [.int h,.ref m])) (h2:H m=some (.tup [.int go,.int ga,.int cb])):SF H (JQ h go ga cb) (.ref a):=by
 unfold JQ SF
 refine⟨a,_,rfl,by rw[iA rfl];exact h1,by show 2 < 16777216;decide,?_⟩
 unfold QE
 refine⟨_,_,rfl,by unfold SF;exact⟨rfl,rfl⟩,?_⟩
 unfold QE
 refine⟨_,_,rfl,?_,by unfold QE;rfl⟩
 unfold SF
 refine⟨m,_,rfl,by rw[iA rfl];exact h2,by show 3 < 16777216;decide,?_⟩
 unfold QE
 refine⟨_,_,rfl,by unfold SF;exact⟨rfl,rfl⟩,?_⟩
 unfold QE
 refine⟨_,_,rfl,by unfold SF;exact⟨rfl,rfl⟩,?_⟩
 unfold QE
 refine⟨_,_,rfl,by unfold SF;exact⟨rfl,rfl⟩,?_⟩
 unfold QE
 rfl
theorem kS {rows:List (Option Sh)} {k:Nat} {r:Sh} (h:rows[k]?=some (some r)):yG (rows.take (k+1))=yG (rows.take k)+1:=by
 unfold yG
 rw[PK h,GC,nA]
 rfl
theorem KO {rows:List (Option Sh)} {k:Nat} (h:rows[k]?=some none):yG (rows.take (k+1))=yG (rows.take k):=by
 unfold yG
 rw[PK h,GC,nA]
 rfl
theorem lS {a b:List (Option Sh)} (h:Paired xG a b):yG a=yG b:=by
 unfold yG
 induction h with
 |nil=>rfl
 |@cons x y _ _ h t ih=>
  cases x<;>cases y
  ·exact ih
  ·exact h.elim
  ·exact h.elim
  ·rw[gC,gC]
   simp only[Option.isSome_some,RC,WA]
   rw[ih]
theorem Cx.nk {A:mI} {H:Hp} {z:Ss} {s:St} {L:Lb} {pl fl sl:Addr} {p:St} (h:Cx A H z s L pl fl sl p):∀q w,AF p q=some w->w.ks≠[]:=λq w e=>by
 have h9:=h.si.lk q
 rw[e] at h9
 cases e0:AF s q with
 |none=>rw[e0] at h9;exact h9.elim
 |some r=>
  rw[e0] at h9
  have h8:=eJ e0
  have hr:some r∈s.fr\/some r∈s.sr:=by
   cases e9:q.1 with
   |true=>rw[e9] at h8;exact .inl (dA h8)
   |false=>rw[e9] at h8;exact .inr (dA h8)
  intro z
  have:=h9.2
  rw[z] at this
  exact (h.ok r hr).2.1 (List.Perm.nil_eq this).symm
theorem KQ (T:bG K mg A):XG P w K mg base "_law_right" 10 ["_law_sheets","_law_plain"] [] (eO A):=by
 have A8:=p0 (P:=P) (w:=w) (base:=base) T 5
 have Et:=DQ (P:=P) (w:=w) (base:=base) T
 have Ex:=GQ (P:=P) (w:=w) (base:=base) T
 have Eg:=ON (P:=P) (w:=w) (base:=base) T
 have Be:=yN (P:=P) (w:=w) (base:=base) T
 have Bg:=ja (P:=P) (w:=w) (base:=base) T
 have Aw:=P0 (P:=P) (w:=w) (base:=base) T
 have Bn:=TU (P:=P) (w:=w) (base:=base) T
 have B0:=yQ (P:=P) (w:=w) (base:=base) T
 refine T.Ez.have ZP (λvs H Q E z=>?_) ?_
 ·obtain⟨z,s,L,pl,fl,sl,p,n,m,t,rfl,_⟩:=z;rfl
 ·intro f cdv A' outer s H vs Q E hr z
  obtain⟨z,s,L,pl,fl,sl,p,n,m,t,rfl,hC,hAp,hM,ht,q⟩:=z
  have hfi0:=hM.fi ht
  have h64:=hC.ss.len
  have hlen:=hC.len
  refine⟨_,(zF (xF (i:=2) ZP.nd rfl (Or.inl rfl) (mH (sE (KH (pE 0) T.Ab Be (hr.mono (by decide)) nF) (sE (KH (pE 0) T.Ab Bg (hr.mono (by decide)) nF) zE))))
   (zF (xF (i:=3) ZP.nd rfl (Or.inl rfl) (DG Ex (hr.mono (by decide)) nF (sE (pE 1) zE)))
   (zF (VF (PW.pt (UO (uK (pI (DG A8 (hr.mono (by decide)) nF (sE (KH (pE 0) T.Ab Eg (hr.mono (by decide)) nF) (sE (pE 3) zE))))) (SO (uK (pI (DG A8 (hr.mono (by decide)) nF (sE (mH (sE (KH (pE 0) T.Ab Be (hr.mono (by decide)) nF) (sE (KH (pE 0) T.Ab Bg (hr.mono (by decide)) nF) zE))) (sE (pE 2) zE)))))))) (ME (KF tK)) mG)
   (zF (VF (PW.pt (UO (uK (pI (DG Et (hr.mono (by decide)) nF (sE (KH (pE 0) T.Ab Bn (hr.mono (by decide)) nF) (sE (IE eF (pE 1) EE (λ_ _=>rfl)) zE))))) (SO (uK (pI (DG Et (hr.mono (by decide)) nF (sE (KH (pE 0) T.Ab B0 (hr.mono (by decide)) nF) (sE (IE eF (pE 1) EE (λ_ _=>rfl)) zE)))))))) (ME (KF tK)) mG)
   (zF (xF (i:=4) ZP.nd rfl (Or.inl rfl) (QF MG rfl T.Aj PySem.boot_len (sE (HJ rfl (FJ (IE eF (pE 1) EE (λ_ _=>rfl))) (x:="_law_one") (fs:=[]) (ix:=[]) rfl rfl (λ_ _ _ _ _ _=>(KG (i:=0) (show (["_law_one"]:List Str).Nodup by decide+kernel) rfl (Or.inl rfl))) (λ_ _ _ _ _ _=>(LM (BF cI (pE 0) wF (uE _)))) (λ_ _ _ _ _ _=>(pE 0))) zE)))
   (zF (xF (i:=4) ZP.nd rfl (Or.inl rfl) (jF PH (pE 4) (QF MG rfl T.Aj PySem.boot_len (sE (HJ rfl (FJ (IE eF (pE 1) EE (λ_ _=>rfl))) (x:="_law_one") (fs:=[]) (ix:=[]) rfl rfl (λ_ _ _ _ _ _=>(KG (i:=0) (show (["_law_one"]:List Str).Nodup by decide+kernel) rfl (Or.inl rfl))) (λ_ _ _ _ _ _=>(LM (PW.pt (hJ (BF cI (pE 0) wF (uE _)) (gJ (BF bI (IE (NK (K:=K) rfl) (pE 0) EE (λ_ _=>rfl)) wF (uE _))))))) (λ_ _ _ _ _ _=>(pE 0))) zE))))
   (ME (KF (DG A8 (hr.mono (by decide)) nF (sE (KH (pE 0) T.Ab Aw (hr.mono (by decide)) nF) (sE (pE 4) zE))))))))))),?_⟩
  refine⟨λσ G=>∃ah mv,σ=[some (.ref z.p),some (.ref pl),some (.ref ah),none,none]/\vE H G/\G ah=some (.tup [.int (s.h:Int),.ref mv])/\G mv=some (.tup [.int s.go,.int s.ga,.int s.cb]),?_,λσ1 G1=>?_⟩
  ·obtain⟨dx9,h9⟩:=hC.ss.me
   unfold FU GU
   walk_at "wp"
   refine⟨dx9,_,h9,UG (by decide+kernel),z,rfl,s,hC.ss,dx9,_,h9,UG (by decide+kernel),z,rfl,s,hC.ss,λt ht p hp=>?_⟩
   obtain⟨b1,c1⟩:=UF (o:=.tup [V.int s.go,V.int s.ga,V.int s.cb]) ht
   obtain⟨b2,c2⟩:=UF (o:=.tup [V.int (s.h:Int),V.ref t]) hp
   exact⟨b1.trans b2,t,rfl,b2 _ _ c1⟩
  rintro⟨ah,mv,rfl,s1,ah1,mv1⟩
  have C1:=hC.same s1
  refine⟨λσ G=>∃du us Lz,σ=[some (.ref z.p),some (.ref pl),some (.ref ah),some (.ref du),none]/\Lp G Lz pl fl sl (DE p (spA p).length).s/\Ap (DE p (spA p).length).s/\G du=some (.lst us)/\Lz du=5/\Paired (qK G) us (DE p (spA p).length).M/\Mv [1,4] L Lz G1 G,?_,λσ2 G2=>?_⟩
  ·unfold sp_lfd
   walk_at "wp"
   exact⟨fl,sl,L,s,p,C1.lp,hAp,hC.si,hfi0,hC.nk,by omega,by omega,λH' L' mo us a1 a2 a3 a4 a5 a6=>⟨us,L',a1,a2,a3,a4,a5,a6⟩⟩
  rintro⟨du,us,Lz,rfl,lp2,ap2,du2,ld2,hP2,m2⟩
  have cs2:=C1.cs.mv m2 C1.lp.q.lv (by simp)
  have sf:=N2 hC.si (spA s).length
  have esp:spA p=spA s:=hC.si.spA
  rw[esp] at lp2 ap2 hP2
  have tp2:∀{c us},G1 c=some (.tup us)->G2 c=some (.tup us):=λhc=>m2.kw _ _ hc (by rw[C1.lp.q.lv.zero hc λ_ z=>nomatch z];simp)
  refine⟨λσ G=>σ=[some (.ref z.p),some (.ref pl),some (.ref ah),some (.ref du),none]/\Cx A G z (OE s).s Lz pl fl sl (DE p (spA s).length).s/\Zv [] Lz Lz G2 G,?_,λσ3 G3=>?_⟩
  ·obtain⟨dx9,h9⟩:=cs2.ss.me
   unfold V1 FU GU
   walk_at "wp"
   refine⟨dx9,_,h9,UG (by decide+kernel),z,rfl,s,cs2.ss,hC.ap,hC.tw,hfi0,λH3 g ys S3 A3 T3 F3 hg hg3 hP3 k3 d3=>?_⟩
   have z3:Zv [] Lz Lz G2 H3:=Zv.ks cs2.ss S3 k3 cs2.l0 lp2.q.lv d3
   have lp3:=lp2.zv z3 (lp2.q.lv.zv z3)
   have du3:=(z3.lst du2 ld2 (by decide) (by simp)).1
   have hP23:Paired (qK H3) us (OE s).M:=by
    rw[sf.M] at hP2
    exact Paired.mapP hP2 λ_ _ q=>q.to λc us hc=>z3.tup hc
   have hk:=eV hfi0 (spA s).length (pA _)
   have C3:Cx A H3 z (OE s).s Lz pl fl sl (DE p (spA s).length).s:=by
    obtain⟨ll,hll⟩:=hk.ad
    refine⟨S3,A3,T3,(fB.mp (hll.nodup_iff.mpr hC.bx)).1,cs2.l0,λr hr=>?_,lp3,sf.s,λr hr=>?_⟩
    ·have h9:r.bx∈(WE s).map Sh.bx:=hll.mem_iff.mp (wB _ (DB.mpr ⟨r,yH.mpr hr,rfl⟩))
     obtain⟨r0,g1,g2⟩:=DB.mp h9
     rw[<-g2]
     exact cs2.lb r0 (yH.mp g1)
    ·have hr9:r∈WE (OE s).s:=yH.mpr hr
     obtain⟨r0,g1,g2⟩:=hk.bx r hr9
     refine⟨⟨?_,?_,λk hk9=>F3.tri k (cE.mpr ⟨r,hr9,hk9⟩)⟩,hk.ne (λr hr=>(hC.ok r (yH.mp hr)).2.1) r hr9,by rw[g2];exact (hC.ok r0 (yH.mp g1)).2.2⟩
     ·obtain⟨l1,l2,e9⟩:=jC hr9
      have h7:=hk.ky.length_eq
      have h8:=hM.few
      have h6:(tI (aF s (spA s).length).s).length=((WE (OE s).s).flatMap Sh.ks).length:=rfl
      rw[e9,ZB,SA,nA,nA] at h6
      omega
     ·obtain⟨l1,l2,e9⟩:=jC hr9
      have h7:=F3.nd
      rw[e9,ZB,SA] at h7
      exact (fB.mp (fB.mp h7).2.1).1
   obtain⟨dx8,h8⟩:=S3.me
   have hml:((OE s).M.map jM).length < 16777216:=by
    have h7:=F3.ml
    have h6:(spA s).length<=1280:=by
     unfold spA
     rw[nA,lA,lA,ZA,ZA]
     omega
    rw[lA]
    omega
   refine⟨_,_,.seq false ((OE s).M.map jM),rfl,(by unfold SF;exact⟨g,ys,rfl,by rw[fA oA];exact hg3,hml,fV hP3⟩),(by unfold SF;exact⟨du,us,rfl,by rw[fA oA];exact du3,hml,fV hP23⟩),(by unfold vF;have:=i3 (OE s).M;omega),λH4 s4=>⟨true,rfl,?_⟩⟩
   rw[fA (by simp)]
   refine⟨dx8,_,s4 _ _ h8,UG (by decide+kernel),z,rfl,_,S3.same s4,dx8,_,s4 _ _ h8,UG (by decide+kernel),z,rfl,_,S3.same s4,λt5 ht5 p5 hp5=>?_⟩
   obtain⟨b5,c5⟩:=UF (o:=.tup [V.int (OE s).s.go,V.int (OE s).s.ga,V.int (OE s).s.cb]) ht5
   obtain⟨b6,c6⟩:=UF (o:=.tup [V.int ((OE s).s.h:Int),V.ref t5]) hp5
   have s46:=s4.trans (b5.trans b6)
   have c56:=b6 _ _ c5
   have ah6:=s46 _ _ (z3.tup (tp2 ah1))
   have mv6:=s46 _ _ (z3.tup (tp2 mv1))
   generalize upd (upd H4 t5 _) p5 _=H6 at *
   have e1:(OE s).s.h=s.h:=hk.h
   have e2:(OE s).s.go=s.go:=hk.go
   have e3:(OE s).s.ga=s.ga:=hk.ga
   have e4:(OE s).s.cb=s.cb:=hk.cb
   rw[e1] at c6
   rw[e2,e3,e4] at c56
   refine⟨_,_,JQ s.h s.go s.ga s.cb,rfl,K3 c6 c56,K3 ah6 mv6,pb,λH7 s7=>⟨true,rfl,?_⟩⟩
   rw[fA (by simp)]
   exact⟨C3.same (s46.trans s7),z3.trans (Zv.of (s46.trans s7))⟩
  rintro⟨rfl,C3,z3⟩
  obtain⟨okf,oks⟩:=C3.oks
  have A3:Ap (DE p (spA s).length).s:=ap2
  refine⟨λσ G=>σ=[some (.ref z.p),some (.ref pl),some (.ref ah),some (.ref du),none]/\vE G3 G,?_,λσ4 G4=>?_⟩
  ·obtain⟨dx9,h9⟩:=C3.ss.me
   have hln6:=C3.ss.lens
   have h64:=C3.ss.len
   have lf:(tF (OE s).s).length<=640:=by unfold tF;rw[aC];omega
   have ls:(tS (OE s).s).length<=640:=by unfold tS;rw[aC];omega
   walk_at "wp"
   refine⟨dx9,_,h9,UG (by decide+kernel),z,(OE s).s,rfl,C3.ss,okf,λH1 l1 b1 hl1 hk1=>?_⟩
   have C61:=C3.same b1
   obtain⟨us,hf,hul,hrow⟩:=C61.tf
   refine⟨_,xE.of C61.lp.q.hp,_,HE (j:=0) rfl,l1,fl,us,tF (OE s).s,rfl,hf,hul,hrow,λr hr=>bM okf hr,lf,hk1,λH2 b2=>⟨true,rfl,gF ?_⟩⟩
   have C62:=C61.same b2
   refine⟨dx9,_,b2 _ _ (b1 _ _ h9),UG (by decide+kernel),z,(OE s).s,rfl,C62.ss,C62.tw,okf,oks,λH3 l3 b3 hl3 hk3=>?_⟩
   have C63:=C62.same b3
   obtain⟨ws,hs,hwl,hrow2⟩:=C63.ts
   exact⟨_,xE.of C63.lp.q.hp,_,HE (j:=1) rfl,l3,sl,ws,tS (OE s).s,rfl,hs,hwl,hrow2,λr hr=>cM okf oks hr,ls,hk3,λH4 b4=>⟨true,rfl,gF (((b1.trans b2).trans b3).trans b4)⟩⟩
  rintro⟨rfl,s4⟩
  have C4:=C3.same s4
  have z4:Zv [1,4] L Lz H G4:=((Zv.of s1).trans (m2.zv C1.lp.q.lv (by simp))).trans ((z3.trans (Zv.of s4)).sub (by simp))
  have hz:=PySem.sizeLine_eq
  have h64b:=C4.ss.len
  have hlenb:=C4.len
  refine⟨λσ G=>σ=[some (.ref z.p),some (.ref pl),some (.ref ah),some (.ref du),some (.int (yG (DE p (spA s).length).s.fr:Nat))]/\vE G4 G,?_,λσ5 G5=>?_⟩
  ·obtain⟨us4,hf4,hul4,hr4⟩:=C4.lp.q.hf
   have hln4:=C4.lp.q.ln
   generalize (DE p (spA s).length).s=y at *
   walk_at "wp"
   refine⟨_,xE.of C4.lp.q.hp,_,HE (j:=0) rfl,fl,rfl,⟨_,xE.of hf4⟩,λD hD=>MM (xs:=us4) (λk ys σ H'=>∃v,σ=[v]/\vE G4 H'/\H' D=some (.lst ys)/\ys.length=yG (y.fr.take k)) ⟨_,rfl,WF sF hD,bF,rfl⟩ (λk ys σ H' _ ⟨_,_,e,_⟩=>xE.of (e _ _ hf4)) (λk v ys σ H' hk=>?_) (λys σ H'=>?_)⟩
   ·rintro⟨v',rfl,s5,hD5,hl5⟩
    have hkl:=(aA.mp hk).1
    obtain⟨r,hr⟩:∃r,y.fr[k]?=some r:=⟨_,bA (by omega)⟩
    obtain⟨o,ho⟩:∃o,y.tf[k]?=some o:=⟨_,bA (by omega)⟩
    obtain⟨v2,hv2,hF2⟩:=hr4 k r o hr ho
    rw[hk] at hv2
    obtain rfl:v=v2:=cA hv2
    have hcl:=NL (rows:=y.fr.take k)
    rw[XA] at hcl
    walk_at "wp"
    cases r with
    |none=>
     obtain rfl:v=.non:=hF2
     exact KJ (by rw[AA rfl];rfl) ⟨s5,hD5,by rw[hl5,KO hr]⟩
    |some r=>
     obtain⟨rfl,_⟩:=hF2
     exact EI (by rw[vA (λz=>nomatch z)];rfl) ⟨hD5,by omega,pH s5 hD,by rw[nA,hl5,kS hr];rfl⟩
   ·rintro⟨v',rfl,s5,hD5,hl5⟩
    rw[hul4,mB] at hl5
    exact⟨_,.inl ⟨_,xE.of hD5,rfl⟩,by rw[hl5],s5⟩
  rintro⟨rfl,s5⟩
  have C5:=C4.same s5
  have esim:=sf.s
  have esim:eG (OE s).s (DE p (spA s).length).s:=esim
  have e1:=lS esim.fr
  have e2:=lS esim.sr
  have qq:∀G,vE G5 G->Q (.bl true) G:=λG sG=>q G Lz _ (C5.same sG) A3 (z4.trans (Zv.of (s5.trans sG)))
  generalize (DE p (spA s).length).s=y at *
  refine⟨λσ G=>σ=[some (.ref z.p),some (.ref pl),some (.ref ah),some (.ref du),some (.int ((yG y.fr:Nat)+(yG y.sr:Nat):Int))]/\vE G5 G,?_,λσ6 G6=>?_⟩
  ·obtain⟨us4,hf4,hul4,hr4⟩:=C5.lp.q.hs
   have hln4:=C5.lp.q.ln
   walk_at "wp"
   refine⟨_,xE.of C5.lp.q.hp,_,HE (j:=1) rfl,sl,rfl,⟨_,xE.of hf4⟩,λD hD=>MM (xs:=us4) (λk ys σ H'=>∃v,σ=[v]/\vE G5 H'/\H' D=some (.lst ys)/\ys.length=yG (y.sr.take k)) ⟨_,rfl,WF sF hD,bF,rfl⟩ (λk ys σ H' _ ⟨_,_,e,_⟩=>xE.of (e _ _ hf4)) (λk v ys σ H' hk=>?_) (λys σ H'=>?_)⟩
   ·rintro⟨v',rfl,s6,hD5,hl5⟩
    have hkl:=(aA.mp hk).1
    obtain⟨r,hr⟩:∃r,y.sr[k]?=some r:=⟨_,bA (by omega)⟩
    obtain⟨o,ho⟩:∃o,y.ts[k]?=some o:=⟨_,bA (by omega)⟩
    obtain⟨v2,hv2,hF2⟩:=hr4 k r o hr ho
    rw[hk] at hv2
    obtain rfl:v=v2:=cA hv2
    have hcl:=NL (rows:=y.sr.take k)
    rw[XA] at hcl
    walk_at "wp"
    cases r with
    |none=>
     cases o with
     |none=>
      obtain rfl:v=.non:=hF2
      exact KJ (by rw[AA rfl];rfl) ⟨s6,hD5,by rw[hl5,KO hr]⟩
     |some i=>
      obtain⟨a9,ba,ha,rfl,x1,_⟩:=hF2
      refine EI (by rw[vA (λz=>nomatch z)];rfl) ⟨_,rfl,_,xE.of (s6 _ _ x1),_,HE (j:=2) rfl,?_⟩
      rw[fA (by simp)]
      exact⟨s6,hD5,by rw[hl5,KO hr]⟩
    |some r=>
     obtain⟨rfl,x1,_⟩:=hF2
     refine EI (by rw[vA (λz=>nomatch z)];rfl) ⟨_,rfl,_,xE.of (s6 _ _ x1),oV none,HE (j:=2) rfl,?_⟩
     rw[iA (by simp[oV])]
     exact⟨hD5,by omega,pH s6 hD,by rw[nA,hl5,kS hr];rfl⟩
   ·rintro⟨v',rfl,s6,hD5,hl5⟩
    rw[hul4,mB] at hl5
    exact⟨_,.inl ⟨_,xE.of hD5,rfl⟩,by rw[hl5],s6⟩
  rintro⟨rfl,s6⟩
  have C6:=C5.same s6
  obtain⟨dx9,h9⟩:=C6.ss.me
  unfold EU
  walk_at "wp"
  refine⟨dx9,_,h9,UG (by decide+kernel),z,rfl,(OE s).s,C6.ss,λH7 s7=>?_⟩
  refine⟨_,_,.leaf (.int ((yG y.fr:Nat)+(yG y.sr:Nat):Int)),rfl,?_,by unfold SF;exact⟨rfl,rfl⟩,by unfold vF;omega,λH8 s8=>qq H8 ((s6.trans s7).trans s8)⟩
  unfold SF
  refine⟨?_,rfl⟩
  unfold FF
  rw[e1,e2]
  rfl
theorem LQ {s:St}:FF s=(WE s).length:=by
 have e:∀{rows:List (Option Sh)},yG rows=(als rows).length:=λ{rows}=>by
  induction rows with
  |nil=>rfl
  |cons x l ih=>
   cases x with
   |none=>exact ih
   |some y=>
    show (some y::l.filter Option.isSome).length=(y::als l).length
    rw[WA,WA]
    exact congrArg (·+1) ih
 unfold FF WE
 rw[WH,nA,e,e]
noncomputable def iO (K:PySem.W.Frag) (A:mI) (a:Addr) (ns:List Int):Sp:=λvs H Q _=>∃(z:Ss) (s:St) (L:Lb) (pl fl sl:Addr) (p:St) (n m t:Nat),vs=[.ref z.p,.ref pl,.ref a,.int (t:Int)]/\Cx A H z s L pl fl sl p/\Ap p/\Me n m t s/\t < 100/\FF s < room s/\DJ K H L a (ns.map V.int)/\
 ∀H' L' s' p',Cx A H' z s' L' pl fl sl p'->Ap p'->Me n m (t+1) s'->FF s'=FF s+1->Zv [1,2,4] L L' H H'->Q .non H'
theorem Kg.kd {C P S:Addr} {z:Ss} {s:St} {H H':Hp} {r:Sh} (k:Kg z r.hd H H') (h:yE C P S H z s) (hr:r∈WE s):Kd z H H':=λc o hc h1 h2 h3=>k c o hc h1 h2 λe=>by
 obtain⟨kvs,h4⟩:=h.hd r.hd (kC.mpr ⟨some r,GA.mpr (yH.mp hr),rfl⟩)
 rw[e,h4] at hc
 exact h3 kvs (cA hc).symm
noncomputable def LO (w:Str) (x:Int) (t:Nat):List Key:=[.inr w,.inl x,.inl ((100+t:Nat):Int)]
noncomputable def MQ:List Str:=[Str.ofString "task",Str.ofString "bank",Str.ofString "",Str.ofString "tank",Str.ofString "banks"]
theorem kM (x:Int):∃w:Str,jJ (MQ.map V.str) (x % 5)=some (.str w):=by
 obtain⟨y,hy⟩:∃y:Nat,x % 5=(y:Int):=⟨(x % 5).toNat,by omega⟩
 have hl:MQ.length=5:=rfl
 rw[hy]
 exact⟨MQ[y]'(by omega),HE (by rw[NA,bA (by omega)];rfl)⟩
structure qb (A:mI) (z:Ss) (s:St) (t:Nat) (bs:List Int) (mk:Addr) (ms:List Bool) (wd:Addr) (G2:Hp) (L:Lb) (pl fl sl:Addr) (L8:Lb) (s1 p1:St) (i:Nat) (ps:List Int) (out:Option (Nat×Sh)) (r w:Sh) (wt:Str) (wx:Int) (G:Hp):Prop where
 ff:wH s none ms s1 i ps out
 rb:r.b=bs
 rk:r.ks=[[.inr wt,.inl wx,.inl (t:Int)]]
 wk:w.ks=[[.inr wt,.inl wx,.inl (t:Int)]]
 cx:Cx A G z {s1 with fr:=s1.fr.set i (some r)} L8 pl fl sl {p1 with fr:=p1.fr.set i (some w)}
 ap:Ap {p1 with fr:=p1.fr.set i (some w)}
 i1:i < s1.fr.length
 i2:i < p1.fr.length
 zv:Zv [1,2,4] L L8 G2 G
 km:G mk=some (.lst (ms.map V.bl))
 lm:L8 mk=5
 kw:G wd=some (.lst (MQ.map V.str))
 lw:L8 wd=5
theorem NQ (T:bG K mg A) (a:Addr) (ns:List Int):XG P w K mg base "_law_made" 9 ["_law_sheets","_law_plain","_law_script","_law_k"] [] (iO K A a ns):=by
 have At:=d0 (P:=P) (w:=w) (base:=base) T a ns
 have E4:=HQ (P:=P) (w:=w) (base:=base) T
 have Fo:=IQ (P:=P) (w:=w) (base:=base) T
 have Bc:=N1 (P:=P) (w:=w) (base:=base) T
 refine T.E9.have kK (λvs H Q E z=>?_) ?_
 ·obtain⟨z,s,L,pl,fl,sl,p,n,m,t,rfl,_⟩:=z;rfl
 ·intro f cdv A' outer s H vs Q E hr z
  obtain⟨z,s,L,pl,fl,sl,p,n,m,t,rfl,hC,hAp,hM,ht,hroom,hScr,q⟩:=z
  obtain⟨us,hf,hul,_⟩:=hC.lp.q.hf
  have hlen:=hC.len
  have h64:=hC.ss.len
  have hz:=PySem.sizeLine_eq
  have hnf:=hM.fr
  have hmf:=hM.sr
  refine⟨_,(zF (xF (i:=4) kK.nd rfl (Or.inl rfl) (DG At (hr.mono (by decide)) nF (sE (pE 2) (sE (jF PH EE (jF VG (pE 3) (QF (iY rfl) rfl T.Fq PyProof.Rows.boot_max (sE EE (sE (jF bY (QF MG rfl T.Aj PySem.boot_len (sE (pE 2) zE)) EE) zE))))) zE))))
   (zF (xF (i:=5) kK.nd rfl (Or.inr rfl) (jF VG (jF PH (jF cY (pE 4) EE) (jF cY (pE 3) EE)) EE))
   (zF (vP (i:=6) kK.nd rfl rfl rfl (iJ rfl T.Ao (sE (QF MG rfl T.Aj PySem.boot_len (sE (IE eF (pE 1) EE (λ_ _=>rfl)) zE)) zE)) (x:="_law_j") (fs:=["_law_number"]) (ix:=[5]) rfl rfl (λ_ _ _ _ _ _=>(KG (i:=0) (show (["_law_j","_law_number"]:List Str).Nodup by decide+kernel) rfl (Or.inl rfl))) (λ_ _ _ _ _ _=>wK) (λ_ _ _ _ _ _=>(AM OI (jF VG (jF zM (pE 1) (jF VG (pE 0) EE)) EE) EE (uE _))))
   (zF (xF (i:=7) kK.nd rfl (Or.inl rfl) (lH (sE (jF PH (jF VG (DG At (hr.mono (by decide)) nF (sE (pE 2) (sE EE zE))) (jF XQ EE EE)) (jF VG (jF pJ (pE 5) EE) EE)) (sE EE zE))))
   (zF (VF (BF OI (jF VG (jF pJ (pE 5) EE) EE) EE (uE _)) (ME (xF (i:=7) kK.nd rfl (Or.inl rfl) (lH (sE (jF PH (jF VG (DG At (hr.mono (by decide)) nF (sE (pE 2) (sE EE zE))) (jF XQ EE EE)) EE) (sE (jF VG (jF PH (pE 4) (pE 3)) EE) zE))))) mG)
   (zF (VF (BF OI (jF VG (jF pJ (pE 5) EE) EE) EE (uE _)) (ME (xF (i:=7) kK.nd rfl (Or.inl rfl) (lH (sE (jF VG (pE 4) (jF XQ EE EE)) (sE (jF VG (jF pJ (pE 4) EE) (jF XQ EE EE)) zE))))) mG)
   (@zF _ _ _ _ _ (@xF _ _ 8 _ _ _ _ kK.nd rfl (Or.inl rfl) (@lH _ _ _ _ (@sE _ _ _ _ _ ZH (@sE _ _ _ _ _ ZH (@sE _ _ _ _ _ ZH (@sE _ _ _ _ _ ZH (@sE _ _ _ _ _ ZH zE rfl) rfl) rfl) rfl) rfl)) rfl (Or.inl rfl))
   (zF (xF (i:=9) kK.nd rfl (Or.inl rfl) (DG E4 (hr.mono (by decide)) nF (@sE _ _ _ _ _ (pE 0) (@sE _ _ _ _ _ (pE 1) (@sE _ _ _ _ _ (pE 7) (@sE _ _ _ _ _ (mH (sE (IE eF (pE 8) (jF VG (jF pJ (pE 5) EE) EE) (λ_ _=>rfl)) (sE (jF VG (pE 5) EE) (sE (pE 3) zE)))) (@sE _ _ _ _ _ (pE 6) zE rfl) rfl) rfl) rfl) rfl)))
   (zF (VF (BF OI (jF VG (jF pJ (pE 5) EE) EE) EE (uE _)) (iF (xF (i:=10) kK.nd rfl (Or.inl rfl) (mH (sE (IE eF (pE 8) (jF VG (jF pJ (pE 5) EE) EE) (λ_ _=>rfl)) (sE (jF VG (pE 5) EE) (sE (jF PH EE (pE 3)) zE)))))
   (iF (qH (iI (pE 0) T.Ab Bc (hr.mono (by decide)) nF (sE (mH (sE ZH (sE (pE 9) zE))) (sE (pE 10) zE))))
   (ME (qH (PJ PySem.F.plainAttrs_list PySem.F.slot_list_append PySem.F.type_list_append QJ (IE eF (IE eF (IE eF (pE 1) EE (λ_ _=>rfl)) (pE 9) (λ_ _=>rfl)) EE (λ_ _=>rfl)) (sE (pE 10) zE)))))) mG)
   (zF (vP (i:=11) kK.nd rfl rfl rfl (iJ rfl T.Ao (sE (QF MG rfl T.Aj PySem.boot_len (sE (IE eF (pE 1) EE (λ_ _=>rfl)) zE)) zE)) (x:="_law_j") (fs:=["_law_plain"]) (ix:=[1]) rfl rfl (λ_ _ _ _ _ _=>(KG (i:=0) (show (["_law_j","_law_plain"]:List Str).Nodup by decide+kernel) rfl (Or.inl rfl))) (λ_ _ _ _ _ _=>(LM (PW.pt (hJ (BF cI (IE (NK (K:=K) rfl) (IE (NK (K:=K) rfl) (pE 1) EE (λ_ _=>rfl)) (pE 0) (λ_ _=>rfl)) wF (uE _)) (gJ (BF bI (IE (NK (K:=K) rfl) (IE (NK (K:=K) rfl) (IE (NK (K:=K) rfl) (pE 1) EE (λ_ _=>rfl)) (pE 0) (λ_ _=>rfl)) EE (λ_ _=>rfl)) wF (uE _))))))) (λ_ _ _ _ _ _=>(pE 0)))
   (ME (VF (PW.pt (hJ (BF gL (QF MG rfl T.Aj PySem.boot_len (sE (pE 11) zE)) EE (uE _)) (gJ (BF gL (jF VG (jF pJ (pE 5) EE) EE) EE (uE _))))) (ME (qH (DG Fo (hr.mono (by decide)) nF (sE (pE 0) (sE (pE 1) (sE (IE eF (pE 11) (jF VG (jF pJ (pE 5) EE) (QF MG rfl T.Aj PySem.boot_len (sE (pE 11) zE))) (λ_ _=>rfl)) (sE (pE 6) zE))))))) mG)))))))))))),?_⟩
  walk_at "wp"
  refine⟨λσ G=>∃c:Int,σ=[some (.ref z.p),some (.ref pl),some (.ref a),some (.int (t:Int)),some (.int c),none,none,none,none,none,none,none]/\G=H,?_,λσ1 G1=>?_⟩
  ·walk_at "wp"
   have hX:(0:Int) < if (ns.length:Int) - 3 > 1 then (ns.length:Int) - 3 else 1:=by split<;>omega
   have hY:=vC (t:Int) (Int.ne_of_gt hX)
   exact⟨ns.length,.inl ⟨_,hScr.sq,by simp⟩,hX,_,rfl,hScr.sq,Int.add_nonneg (by decide) hY,_,rfl,rfl⟩
  rintro⟨c,rfl,rfl⟩
  refine⟨λσ G=>∃nb:Nat,σ=[some (.ref z.p),some (.ref pl),some (.ref a),some (.int (t:Int)),some (.int c),some (.int (nb:Int)),none,none,none,none,none,none]/\G=G1,?_,λσ2 G2=>?_⟩
  ·walk_at "wp"
   have e0:=vC (c * 48271+(t:Int) * 16807) (show (2147483647:Int)≠0 by decide)
   exact⟨((c * 48271+(t:Int) * 16807) % 2147483647).toNat,by omega⟩
  rintro⟨nb,rfl,rfl⟩
  refine⟨λσ G'=>∃(mk:Addr) (ms:List Bool),σ=[some (.ref z.p),some (.ref pl),some (.ref a),some (.int (t:Int)),some (.int c),some (.int (nb:Int)),some (.ref mk),none,none,none,none,none]/\vE G2 G'/\G2 mk=none/\G' mk=some (.lst (ms.map V.bl))/\ms.length=n,?_,λσ3 G3=>?_⟩
  ·walk_at "wp"
   refine⟨_,xE.of hC.lp.q.hp,_,HE (j:=0) rfl,_,.inl ⟨_,xE.of hf,rfl⟩,by omega,by omega,λD hD=>?_⟩
   refine LK (λi9 ys σ H'=>∃(v:Option V) (ms:List Bool),σ=[v,some (.int (nb:Int))]/\vE G2 H'/\H' D=some (.lst ys)/\ys=ms.map V.bl/\ms.length=i9) ⟨_,[],rfl,WF sF hD,bF,rfl,rfl⟩ (λi9 ys σ H' hi9=>?_) (λys σ H5=>?_)
   ·rintro⟨v,ms,rfl,s1,hD1,rfl,hml⟩
    walk_at "wp"
    exact⟨by omega,hD1,by rw[lA];omega,pH s1 hD,ms++[_],by rw[aB];rfl,by rw[nA,hml];rfl⟩
   ·rintro⟨v,ms,rfl,s1,hD1,rfl,hml⟩
    exact⟨s1,hD,ms,hD1,by omega⟩
  rintro⟨mk,ms,rfl,s3,hmk,mk3,hml⟩
  have C3:=hC.lab (k:=5) s3 hmk mk3
  have z3:Zv [1,2,4] L (lab L mk 5) G2 G3:=(Mv.lab s3 hmk).zv hC.lp.q.lv (by simp)
  have l3m:lab L mk 5 mk=5:=FH
  have hScr3:=hScr.zv z3 (by decide)
  generalize lab L mk 5=L3 at *
  clear s3 hmk
  refine⟨λσ G'=>∃(sh0:Addr) (bs:List Int),σ=[some (.ref z.p),some (.ref pl),some (.ref a),some (.int (t:Int)),some (.int c),some (.int (nb:Int)),some (.ref mk),some (.ref sh0),none,none,none,none]/\bs.length=2/\vE G3 G'/\G3 sh0=none/\G' sh0=some (.lst (bs.map V.int)),?_,λσ4 G4=>?_⟩
  ·walk_at "wp"
   exact⟨2,rfl,hScr3.sq,by omega,_,rfl,λp hp=>⟨[_,_],rfl,WF sF hp,hp,rfl⟩⟩
  rintro⟨sh4,bs4,rfl,hb4,s4,f4,g4⟩
  have hScr4:DJ K G4 L3 a (ns.map V.int):=hScr3.zv (Zv.of (S:=[]) s4) (by simp)
  refine⟨λσ G'=>∃(sh0:Addr) (bs:List Int),σ=[some (.ref z.p),some (.ref pl),some (.ref a),some (.int (t:Int)),some (.int c),some (.int (nb:Int)),some (.ref mk),some (.ref sh0),none,none,none,none]/\bs.length=2/\vE G3 G'/\G3 sh0=none/\G' sh0=some (.lst (bs.map V.int)),?_,λσ5 G5=>?_⟩
  ·walk_at "wp"
   exact fI (λ_=>⟨2,rfl,hScr4.sq,by omega,_,rfl,λp hp=>⟨[_,_],rfl,s4.trans (WF sF hp),cG s4 hp,rfl⟩⟩) (λ_=>⟨bs4,hb4,s4,f4,g4⟩)
  rintro⟨sh5,bs5,rfl,hb5,s5,f5,g5⟩
  have hScr5:DJ K G5 L3 a (ns.map V.int):=hScr3.zv (Zv.of (S:=[]) s5) (by simp)
  refine⟨λσ G'=>∃(sh0:Addr) (bs:List Int),σ=[some (.ref z.p),some (.ref pl),some (.ref a),some (.int (t:Int)),some (.int c),some (.int (nb:Int)),some (.ref mk),some (.ref sh0),none,none,none,none]/\bs.length=2/\vE G3 G'/\G3 sh0=none/\G' sh0=some (.lst (bs.map V.int)),?_,λσ6 G6=>?_⟩
  ·walk_at "wp"
   exact fI (λ_ p hp=>⟨[_,_],rfl,s5.trans (WF sF hp),cG s5 hp,rfl⟩) (λ_=>⟨bs5,hb5,s5,f5,g5⟩)
  rintro⟨sh0,bs,rfl,hb,s6,f6,g6⟩
  clear hScr4 hScr5 s4 s5 f4 f5 g4 g5 hb4 hb5
  have C6:=C3.lab (k:=3) s6 f6 g6
  have z6:Zv [1,2,4] L (lab L3 sh0 3) G2 G6:=z3.trans ((Mv.lab s6 f6).zv C3.lp.q.lv (by simp))
  have l6s:lab L3 sh0 3 sh0=3:=FH
  have l6m:lab L3 sh0 3 mk=5:=by rw[aH (NF mk3 f6)];exact l3m
  have mk6:=s6 _ _ mk3
  generalize lab L3 sh0 3=L6 at *
  clear hScr3 C3 z3 l3m s6 f6 mk3
  refine⟨λσ G'=>∃wd,σ=[some (.ref z.p),some (.ref pl),some (.ref a),some (.int (t:Int)),some (.int c),some (.int (nb:Int)),some (.ref mk),some (.ref sh0),some (.ref wd),none,none,none]/\vE G6 G'/\G6 wd=none/\G' wd=some (.lst (MQ.map V.str)),?_,λσ7 G7=>?_⟩
  ·walk_at "wp"
   exact λwd hwd=>⟨WF sF hwd,hwd,rfl⟩
  rintro⟨wd,rfl,s7,f7,g7⟩
  have C7:=C6.lab (k:=5) s7 f7 g7
  have z7:Zv [1,2,4] L (lab L6 wd 5) G2 G7:=z6.trans ((Mv.lab s7 f7).zv C6.lp.q.lv (by simp))
  have l7w:lab L6 wd 5 wd=5:=FH
  have l7s:lab L6 wd 5 sh0=3:=by rw[aH (NF g6 f7)];exact l6s
  have l7m:lab L6 wd 5 mk=5:=by rw[aH (NF mk6 f7)];exact l6m
  have mk7:=s7 _ _ mk6
  have sh7:=s7 _ _ g6
  generalize lab L6 wd 5=L7 at *
  clear C6 z6 l6s l6m mk6 g6 s7 f7
  refine⟨λσ G'=>∃(L8:Lb) (s1 p1:St) (i:Nat) (ps:List Int) (out:Option (Nat×Sh)) (r w:Sh) (wt:Str) (wx:Int),σ=[some (.ref z.p),some (.ref pl),some (.ref a),some (.int (t:Int)),some (.int c),some (.int (nb:Int)),some (.ref mk),some (.ref sh0),some (.ref wd),some (.int (i:Int)),none,none]/\qb A z s t bs mk ms wd G2 L pl fl sl L8 s1 p1 i ps out r w wt wx G',?_,λσ8 G8=>?_⟩
  ·walk_at "wp"
   obtain⟨w1,hw1⟩:=kM ((nb:Int) / 65536)
   refine⟨_,xE.of g7,_,hw1,λh hh=>?_⟩
   obtain⟨b1,c1⟩:=UF (o:=.tup [V.str w1,V.int ((nb:Int) % 7),V.int (t:Int)]) hh
   refine⟨z,s,L7,pl,fl,sl,sh0,h,mk,p,bs,[.inr w1,.inl ((nb:Int) % 7),.inl (t:Int)],ms,rfl,C7.same b1,hAp,hroom,b1 _ _ sh7,l7s,by omega,c1,⟨_,_,_,rfl⟩,b1 _ _ mk7,l7m,by omega,λH' L' s1 p1 i ps out r w a1 a2 a3 a4 a5 a6 a7 a8 a9=>?_⟩
   obtain⟨y1,y2⟩:=a9.lst (b1 _ _ mk7) l7m (by decide) (by decide)
   obtain⟨y3,y4⟩:=a9.lst (b1 _ _ g7) l7w (by decide) (by decide)
   exact⟨L',s1,p1,i,rfl,ps,out,r,w,w1,(nb:Int) % 7,a1,a2,a3,a4,a5,a6,a7,a8,z7.trans ((Zv.of b1).trans a9),y1,y2,y3,y4⟩
  rintro⟨L8,s1,p1,i,ps,out,r,w8,wt,wx,rfl,D8⟩
  clear C7 z7 l7w l7s l7m mk7 sh7 g7
  refine⟨λσ G'=>∃v11 L9 s9 p9,σ=[some (.ref z.p),some (.ref pl),some (.ref a),some (.int (t:Int)),some (.int c),some (.int (nb:Int)),some (.ref mk),some (.ref sh0),some (.ref wd),some (.int (i:Int)),v11,none]/\Cx A G' z s9 L9 pl fl sl p9/\Ap p9/\Me n m (t+1) s9/\FF s9=FF s+1/\Zv [1,2,4] L L9 G2 G'/\G' mk=some (.lst (ms.map V.bl))/\L9 mk=5,?_,λσ9 G9=>?_⟩
  ·have lv9:∀r',FF ({s1 with fr:=s1.fr.set i (some r')}:St)=FF s+1:=λr'=>by rw[LQ,(D8.ff.alsF (r:=r') hC.tw).length_eq,WA,<-LQ]
   obtain⟨fc1,fc2,fc3,_⟩:=D8.ff.facts hC.tw
   have hr7:(s1.fr.set i (some r))[i]?=some (some r):=EA D8.i1
   have hw7i:(p1.fr.set i (some w8))[i]?=some (some w8):=EA D8.i2
   obtain⟨dx9,h9⟩:=D8.cx.ss.me
   have C8:=D8.cx
   walk_at "wp"
   refine fI (λ_=>?_) (λ_=>⟨L8,_,_,D8.cx,D8.ap,hM.add ht (D8.ff.alsF hC.tw) (by show (s1.fr.set i (some r)).length=_;rw[BA];exact fc2) fc3 (by rw[D8.rb];exact hb) (.inl D8.rk),lv9 r,D8.zv,D8.km,D8.lm⟩)
   obtain⟨w2,hw2⟩:=kM ((nb:Int) / 983040)
   refine⟨_,xE.of D8.kw,_,hw2,λt2 ht2=>?_⟩
   rw[show (100:Int)+(t:Int)=((100+t:Nat):Int) by omega]
   obtain⟨b2,c2⟩:=UF (o:=.tup [V.str w2,V.int ((nb:Int) % 5),V.int ((100+t:Nat):Int)]) ht2
   have C81:=C8.same b2
   have z81:Zv [1,2,4] L8 L8 G8 _:=Zv.of b2
   have h91:=b2 _ _ h9
   generalize upd G8 t2 _=G81 at *
   refine⟨dx9,_,h91,UG (by decide+kernel),λt1 ht1=>?_⟩
   obtain⟨b1,c1⟩:=UF (o:=.tup [V.str (Str.ofString "frame"),V.int (i:Int)]) ht1
   have C82:=C81.same b1
   have z82:Zv [1,2,4] L8 L8 G8 _:=z81.trans (Zv.of b1)
   have c22:=b1 _ _ c2
   generalize upd G81 t1 _=G82 at *
   clear C81 z81 h91 c2 b2 b1 h9
   refine⟨z,_,t1,t2,true,i,r,LO w2 ((nb:Int) % 5) t,rfl,C82.ss,C82.ap,c1,hr7,c22,?_,by rw[D8.rk];show 1<=2000;decide,λH1 S9 A9 k9 d9=>?_⟩
   ·rw[D8.rk]
    intro z9
    have z9:=kA.mp z9
    injection z9 with _ z9
    injection z9 with _ z9
    injection z9 with z9 _
    have:((100+t:Nat):Int)=(t:Int):=mD z9
    omega
   have z9:Zv [] L8 L8 G82 H1:=Zv.ks C82.ss S9 (k9.kd C82.ss (yH.mpr (.inl (dA hr7)))) C82.l0 C82.lp.q.lv d9
   have lp9:=C82.lp.zv z9 (C82.lp.q.lv.zv z9)
   obtain⟨us9,hf9,hul9,hrows9⟩:=lp9.q.hf
   have hln8:=lp9.q.ln
   have hi2:=D8.i2
   obtain⟨o9,ho9⟩:∃o,p1.tf[i]?=some o:=⟨_,bA (by have:=hln8.1;rw[show ({p1 with fr:=p1.fr.set i (some w8)}:St).fr=p1.fr.set i (some w8) from rfl,BA] at this;have:p1.tf.length=p1.fr.length:=this;omega)⟩
   obtain⟨v9,hv9,⟨rfl,x1,x2,⟨ls,x3,x4⟩,x5,x6,x7⟩⟩:=hrows9 i (some w8) o9 hw7i ho9
   have hls:=Paired.length x4
   rw[D8.wk] at hls
   have hls:ls.length=1:=hls
   have c29:=z9.tup c22
   refine⟨_,xE.of lp9.q.hp,_,HE (j:=0) rfl,fl,rfl,_,xE.of hf9,_,HE hv9,w8.sh,rfl,_,xE.of x1,_,HE (j:=1) rfl,.inl ⟨rfl,_,xE.of x3⟩,w8.hd,rfl,ls,x3,by omega,?_⟩
   have lp11:=lp9.ks (f:=true) (j:=i) (w:=w8) (ks':=w8.ks++[LO w2 ((nb:Int) % 5) t]) (us':=ls++[V.ref t2]) D8.ap hw7i (by rw[D8.wk];simp) (dJ x4 ⟨t2,rfl,(show H1 t2=some (.tup ((LO w2 ((nb:Int) % 5) t).map kV)) from c29)⟩)
   have m11:Mv [4] L8 L8 H1 (upd H1 w8.hd (.lst (ls++[V.ref t2]))):=Mv.set x3 (by rw[x7];simp)
   have cs10:Cs A H1 z _ L8:=⟨S9,C82.l0,λq hq=>(OR hq).elim (λe=>by cases e;exact C82.lb r (.inl (dA hr7))) (C82.lb q)⟩
   have cs11:=cs10.mv m11 lp9.q.lv (by simp)
   have HG:Zv [1,2,4] L8 L8 G8 _:=(z82.trans (z9.sub (by simp))).trans ((m11.zv lp9.q.lv (by simp)).sub (by simp))
   obtain⟨mk11,lm11⟩:=HG.lst D8.km D8.lm (by decide) (by decide)
   have e9:({s1 with fr:=s1.fr.set i (some r)}:St).put true i (some {r with ks:=r.ks++[LO w2 ((nb:Int) % 5) t]})={s1 with fr:=s1.fr.set i (some {r with ks:=r.ks++[LO w2 ((nb:Int) % 5) t]})}:=by
    show ({s1 with fr:=(s1.fr.set i (some r)).set i _}:St)=_
    rw[RB]
   refine⟨L8,_,_,⟨cs11.ss,A9,C82.tw.put (f:=true) hr7,FN (f:=true) C82.bx hr7 rfl,cs11.l0,cs11.lb,lp11,⟨mK (show xG (some _) (some _) from ⟨?_,?_⟩) i C82.si.fr,C82.si.sr,C82.si.tf,C82.si.ts,C82.si.h⟩,λq hq=>?_⟩,LU (f:=true) (r':={w8 with ks:=w8.ks++[LO w2 ((nb:Int) % 5) t]}) D8.ap hw7i rfl,?_,?_,D8.zv.trans HG,mk11,lm11⟩
   ·obtain⟨y,hy1,hy2⟩:=C82.si.at hr7
    have hy1:(p1.fr.set i (some w8))[i]?=some (some y):=hy1
    rw[hw7i] at hy1
    obtain rfl:=cA (cA hy1)
    exact hy2.1
   ·show (w8.ks++_).Perm (r.ks++_)
    rw[D8.wk,D8.rk]
   ·rcases OR hq with e|e
    ·cases e
     obtain⟨_,_,y3⟩:=C82.ok r (.inl (dA hr7))
     refine⟨?_,by simp,y3⟩
     show JJ (r.ks++_)
     rw[D8.rk]
     refine⟨by show 2 < 640;decide,?_,λk9 hk9=>?_⟩
     ·refine gB.mpr ⟨λz9=>?_,by simp⟩
      have z9:=kA.mp z9
      injection z9 with _ z9
      injection z9 with _ z9
      injection z9 with z9 _
      have:(t:Int)=((100+t:Nat):Int):=mD z9
      omega
     ·rcases GA.mp hk9 with h|h<;>(rw[kA.mp h];exact⟨_,_,_,rfl⟩)
    ·exact C82.ok q e
   ·rw[e9]
    exact hM.add ht (D8.ff.alsF hC.tw) (by show (s1.fr.set i _).length=_;rw[BA];exact fc2) fc3 (by show r.b.length=2;rw[D8.rb];exact hb) (.inr ⟨w2,(nb:Int) % 5,by show r.ks++_=_;rw[D8.rk];rfl⟩)
   ·rw[e9]
    exact lv9 _
  rintro⟨v11,L9,s9,p9,rfl,C9,A9,M9,hl9,z9,mk9,lm9⟩
  clear D8
  obtain⟨ws9,hs9,hwl9,hslo9⟩:=C9.lp.q.hs
  have hlen9:=C9.len
  have hln9:=C9.lp.q.ln
  have hsr9:=M9.sr
  have hfr9:=M9.fr
  refine⟨λσ G'=>∃(so:Addr) (js:List Nat),σ=[some (.ref z.p),some (.ref pl),some (.ref a),some (.int (t:Int)),some (.int c),some (.int (nb:Int)),some (.ref mk),some (.ref sh0),some (.ref wd),some (.int (i:Int)),v11,some (.ref so)]/\vE G9 G'/\G' so=some (.lst (js.map λ(j:Nat)=>V.int (j:Int)))/\∀j∈js,∃q,s9.sr[j]?=some (some q),?_,λσ10 G10=>?_⟩
  ·walk_at "wp"
   refine⟨_,xE.of C9.lp.q.hp,_,HE (j:=1) rfl,_,.inl ⟨_,xE.of hs9,rfl⟩,by omega,by omega,λD hD=>?_⟩
   refine LK (λi9 ys σ H'=>∃(v:Option V) (js:List Nat),σ=[v,some (.ref pl)]/\vE G9 H'/\H' D=some (.lst ys)/\ys=(js.map λ(j:Nat)=>V.int (j:Int))/\js.length<=i9/\∀j∈js,∃q,s9.sr[j]?=some (some q)) ⟨_,[],rfl,WF sF hD,bF,rfl,pA _,λj hj=>by cases hj⟩ (λi9 ys σ H' hi9=>?_) (λys σ H5=>?_)
   ·rintro⟨v,js,rfl,b1,hD1,rfl,hjl,hjs⟩
    have hi9:i9 < p9.sr.length:=by omega
    obtain⟨r2,hr2⟩:∃r,p9.sr[i9]?=some r:=⟨_,bA hi9⟩
    obtain⟨o2,ho2⟩:∃o,p9.ts[i9]?=some o:=⟨_,bA (by omega)⟩
    obtain⟨v2,hv2,hF2⟩:=hslo9 i9 r2 o2 hr2 ho2
    walk_at "wp"
    rw[zB]
    refine⟨_,xE.of (b1 _ _ C9.lp.q.hp),_,HE (j:=1) rfl,sl,rfl,_,xE.of (b1 _ _ hs9),_,HE hv2,?_⟩
    cases r2 with
    |none=>
     cases o2 with
     |none=>
      obtain rfl:v2=.non:=hF2
      exact KJ (by rw[AA rfl];rfl) ⟨b1,hD1,js,rfl,by omega,hjs⟩
     |some b=>
      obtain⟨ra,ba,ha,rfl,x1,_⟩:=hF2
      refine EI (by rw[vA (λz=>nomatch z)];rfl) ⟨_,xE.of (b1 _ _ C9.lp.q.hp),_,HE (j:=1) rfl,sl,rfl,_,xE.of (b1 _ _ hs9),_,HE hv2,ra,rfl,_,xE.of (b1 _ _ x1),_,HE (j:=2) rfl,?_⟩
      rw[fA (λz=>nomatch z)]
      exact⟨b1,hD1,js,rfl,by omega,hjs⟩
    |some w2=>
     obtain⟨rfl,x1,_⟩:=hF2
     refine EI (by rw[vA (λz=>nomatch z)];rfl) ⟨_,xE.of (b1 _ _ C9.lp.q.hp),_,HE (j:=1) rfl,sl,rfl,_,xE.of (b1 _ _ hs9),_,HE hv2,w2.sh,rfl,_,xE.of (b1 _ _ x1),_,HE (j:=2) rfl,?_⟩
     rw[iA (show oV none=V.non from rfl)]
     refine⟨hD1,by rw[lA];omega,pH b1 hD,js++[i9],by rw[aB];rfl,by rw[nA];show js.length+1<=i9+1;omega,λj hj=>?_⟩
     rcases GA.mp hj with h|h
     ·exact hjs j h
     ·rw[kA.mp h]
      obtain⟨y,hy1,hy2⟩:=BJ C9.si.sr hr2
      cases y with
      |none=>exact hy2.elim
      |some q=>exact⟨q,hy1⟩
   ·rintro⟨v,js,rfl,b1,hD1,rfl,hjl,hjs⟩
    exact⟨b1,js,hD1,hjs⟩
  rintro⟨so,js,rfl,b5,so5,hjs⟩
  have C10:=C9.same b5
  have mk10:=b5 _ _ mk9
  walk_at "wp"
  refine⟨js.length,.inl ⟨_,xE.of so5,by rw[lA]⟩,?_⟩
  have hq:=q _ L9 s9 p9 C10 A9 M9 hl9 (z9.trans (Zv.of b5))
  refine fI (λhj0=>fI (λ_=>?_) (λ_=>hq)) (λ_=>gF hq)
  have e1:=vC ((nb:Int) / 6144) (show (js.length:Int)≠0 by omega)
  have e2:=EC ((nb:Int) / 6144) (show (0:Int) < js.length by omega)
  obtain⟨x9,hx9⟩:∃x9:Nat,(nb:Int) / 6144 % (js.length:Int)=(x9:Int):=⟨((nb:Int) / 6144 % (js.length:Int)).toNat,by omega⟩
  obtain⟨j,hj⟩:∃j,js[x9]?=some j:=⟨_,bA (by omega)⟩
  obtain⟨q0,hq0⟩:=hjs j (dA hj)
  refine⟨js.length,.inl ⟨_,xE.of so5,by rw[lA]⟩,by omega,_,xE.of so5,V.int (j:Int),by rw[hx9];exact HE (by rw[NA,hj];rfl),z,s9,L9,pl,fl,sl,mk,p9,j,ms,q0,rfl,C10,hq0,mk10,lm9,by omega,λH' L' s2 p2 i2 ps2 out2 out3 a7 y1 y2 y3 y4 y5=>?_⟩
  have pm:=y1.alsB C9.tw hq0
  obtain⟨b1,b2,_⟩:=AN (s1:=s2) (i:=i2) (j:=j) (c:=q0) (out:=out3)
  obtain⟨_,f2,f3,_⟩:=y1.facts C9.tw
  exact q H' L' _ _ y3 (y4 A9) (M9.pm pm (by rw[b1,BA];exact f2) (by rw[b2];split<;>first|exact f3|(rw[BA];exact f3))) (by rw[LQ,pm.length_eq,<-LQ];exact hl9) ((z9.trans (Zv.of b5)).trans (y5.sub (by simp)))
noncomputable def II (n m:Nat):St:=⟨List.replicate n none,List.replicate m none,0,0,0,0,List.replicate n none,List.replicate m none⟩
theorem vb {A:mI} {G G6:Hp} {z:Ss} {L:Lb} {pl fl sl:Addr} {n m:Nat} (hS:yE A.Aa A.Ad A.Ac G z (II n m)) (l0:∀c∈z.four,L c=0) (lv:Lv L G) (sm:vE G G6) (hp:G pl=none) (hf:G fl=none) (hs:G sl=none) (ne:pl≠fl/\pl≠sl/\fl≠sl) (gp:G6 pl=some (.lst [.ref fl,.ref sl,.int 0])) (gf:G6 fl=some (.lst (List.replicate n .non))) (gs:G6 sl=some (.lst (List.replicate m .non))):Cx A G6 z (II n m) (lab (lab (lab L fl 1) sl 1) pl 1) pl fl sl (II n m)/\Ap (II n m)/\Mv [] L (lab (lab (lab L fl 1) sl 1) pl 1) G G6:=by
 have no:∀{k:Nat} {r:Sh},some r∉List.replicate k (none:Option Sh):=λh=>by cases iB h
 have no2:∀{i k j:Nat},(List.replicate k (none:Option Nat))[i]?≠some (some j):=λh=>by cases iB (dA h)
 have nal:∀(k:Nat),als (List.replicate k none)=[]:=λk=>by unfold als;exact aD.mpr λa ha=>by rw[iB ha];rfl
 have nhd:∀(k:Nat),iG (List.replicate k none)=[]:=λk=>by unfold iG;exact aD.mpr λa ha=>by rw[iB ha];rfl
 have hA:Ap (II n m):=by
  unfold Ap II
  rw[jH,nhd,nhd]
  exact lC
 have hT:Tw (II n m):=⟨λi j h=>absurd h no2,λi j h=>absurd h no2,λi j h=>absurd h no2,λi j h=>absurd h no2⟩
 have hB:Bx (II n m):=by
  unfold Bx WE II
  rw[WH,nal,nal]
  exact lC
 have prs:∀k:Nat,Paired xG (List.replicate k none) (List.replicate k none):=λk=>by
  induction k with
  |zero=>exact .nil
  |succ k ih=>exact .cons trivial ih
 have mv:Mv [] L (lab (lab (lab L fl 1) sl 1) pl 1) G G6:=⟨λc=>by
  by_cases e1:c=pl
  ·rw[e1];exact .inr hp
  ·rw[aH e1]
   by_cases e2:c=sl
   ·rw[e2];exact .inr hs
   ·rw[aH e2]
    by_cases e3:c=fl
    ·rw[e3];exact .inr hf
    ·exact .inl (aH e3),λc o hc _=>sm _ _ hc,λc hc=>cG sm hc⟩
 have hlv:Lv (lab (lab (lab L fl 1) sl 1) pl 1) G6:=(((lv.same sm).lab sF gf).lab sF gs).lab sF gp
 have lf:lab (lab (lab L fl 1) sl 1) pl 1 fl=1:=by rw[aH (Ne.symm ne.1),aH ne.2.2];exact FH
 have ls:lab (lab (lab L fl 1) sl 1) pl 1 sl=1:=by rw[aH (Ne.symm ne.2.1)];exact FH
 have cs:Cs A G6 z (II n m) (lab (lab (lab L fl 1) sl 1) pl 1):=Cs.mv (L:=L) (H:=G) ⟨hS,l0,λr hr=>hr.elim (λh=>absurd h no) (λh=>absurd h no)⟩ mv lv (by simp)
 refine⟨⟨cs.ss,hA,hT,hB,cs.l0,cs.lb,⟨⟨gp,⟨_,gf,by rw[FA];exact FA.symm,λi r o hr ho=>?_⟩,⟨_,gs,by rw[FA];exact FA.symm,λi r o hr ho=>?_⟩,⟨FH,lf,ls⟩,ne,⟨by show (List.replicate n none).length=(List.replicate n none).length;rw[FA,FA],by show (List.replicate m none).length=(List.replicate m none).length;rw[FA,FA]⟩,hlv⟩,hT⟩,⟨prs n,prs m,rfl,rfl,rfl⟩,λr hr=>hr.elim (λh=>absurd h no) (λh=>absurd h no)⟩,hA,mv⟩
 ·have hr:(List.replicate n (none:Option Sh))[i]?=some r:=hr
  obtain rfl:r=none:=iB (dA hr)
  have hi:=(aA.mp hr).1
  rw[FA] at hi
  exact⟨.non,by rw[kD,iA hi],rfl⟩
 ·have hr:(List.replicate m (none:Option Sh))[i]?=some r:=hr
  have ho:(List.replicate m (none:Option Nat))[i]?=some o:=ho
  obtain rfl:r=none:=iB (dA hr)
  obtain rfl:o=none:=iB (dA ho)
  have hi:=(aA.mp hr).1
  rw[FA] at hi
  exact⟨.non,by rw[kD,iA hi],rfl⟩
theorem hV {n m:Nat}:WE (II n m)=[]:=by
 have nal:∀(k:Nat),als (List.replicate k none)=[]:=λk=>by unfold als;exact aD.mpr λa ha=>by rw[iB ha];rfl
 unfold WE II
 rw[WH,nal,nal];rfl
theorem wb {n m:Nat}:Me n m 0 (II n m):=by
 have e4:tI (II n m)=[]:=by unfold tI;rw[hV];rfl
 refine⟨FA,FA,?_,?_,?_,?_,?_⟩
 ·rw[e4];exact lC
 ·rw[e4];exact λk hk=>(lB hk).elim
 ·rw[e4];exact λk hk=>(lB hk).elim
 ·rw[e4];exact pA _
 ·rw[hV];exact λk hk=>(lB hk).elim
structure Lw (K:PySem.W.Frag) (A:mI) (z:Ss) (n m t:Nat) (pl fl sl a:Addr) (ns:List Int) (s:St) (L:Lb) (p:St) (G:Hp):Prop where
 cx:Cx A G z s L pl fl sl p
 ap:Ap p
 me:Me n m t s
 sc:DJ K G L a (ns.map V.int)
theorem Lw.rgt {K:PySem.W.Frag} {A:mI} {z:Ss} {n m t:Nat} {pl fl sl a:Addr} {ns:List Int} {s:St} {L:Lb} {p:St} {G:Hp} (h:Lw K A z n m t pl fl sl a ns s L p G) (ht:t<=100) {G':Hp} {L':Lb} {p':St} (c:Cx A G' z (OE s).s L' pl fl sl p') (ha:Ap p') (hz:Zv [1,4] L L' G G'):Lw K A z n m t pl fl sl a ns (OE s).s L' p' G':=⟨c,ha,h.me.fold ht,h.sc.zv hz (by decide)⟩
theorem Lw.same {K:PySem.W.Frag} {A:mI} {z:Ss} {n m t:Nat} {pl fl sl a:Addr} {ns:List Int} {s:St} {L:Lb} {p:St} {G G':Hp} (h:Lw K A z n m t pl fl sl a ns s L p G) (e:vE G G'):Lw K A z n m t pl fl sl a ns s L p G':=⟨h.cx.same e,h.ap,h.me,h.sc.zv (Zv.of (S:=[]) e) (by simp)⟩
noncomputable def lM (K:PySem.W.Frag):Sp:=λvs H Q _=>∃(a:Addr) (ns:List Int),vs=[.ref a]/\xE K H a (ns.map V.int)/\ns.length<=63/\∀H',Q (.bl true) H'
theorem xb (T:bG K mg A):jI P w K mg base "law" KR ["_law_script","_law_frames","_law_slots","_law_sheets","_law_plain","_law_many","_law_k","_law_full"] 12 (lM K):=by
 intro f cdv A' outer s H vs Q E hr z
 obtain⟨a,ns,rfl,hs,hn,qq⟩:=z
 have At:=d0 (P:=P) (w:=w) (base:=base) T a ns
 have Eu:=NQ (P:=P) (w:=w) (base:=base) T a ns
 have Cn:=KQ (P:=P) (w:=w) (base:=base) T
 have Eh:=gQ (P:=P) (w:=w) (base:=base) T
 have hz:=PySem.sizeLine_eq
 refine⟨_,(iF (xF (i:=1) lK.nd rfl (Or.inl rfl) (jF PH EE (jF VG (DG At (hr.mono (by decide)) nF (sE (pE 0) (sE EE zE))) EE)))
   (iF (xF (i:=2) lK.nd rfl (Or.inl rfl) (jF VG (DG At (hr.mono (by decide)) nF (sE (pE 0) (sE EE zE))) EE))
   (zF (VF (BF OI (jF VG (jF pJ (DG At (hr.mono (by decide)) nF (sE (pE 0) (sE EE zE))) EE) EE) EE (uE _)) (iF (xF (i:=1) lK.nd rfl (Or.inl rfl) (jF PH EE (jF VG (jF pJ (DG At (hr.mono (by decide)) nF (sE (pE 0) (sE EE zE))) EE) EE)))
   (ME (xF (i:=2) lK.nd rfl (Or.inl rfl) (jF VG (jF pJ (DG At (hr.mono (by decide)) nF (sE (pE 0) (sE EE zE))) EE) EE)))) mG)
   (zF (xF (i:=3) lK.nd rfl (Or.inl rfl) (eR Eh (hr.mono (by decide)) nF (sE (pE 1) (sE (pE 2) (sE EE zE)))))
   (zF (xF (i:=4) lK.nd rfl (Or.inl rfl) (lH (sE (HJ rfl (iJ rfl T.Ao (sE (pE 1) zE)) (x:="_law_k") (fs:=[]) (ix:=[]) rfl rfl (λ_ _ _ _ _ _=>(KG (i:=0) (show (["_law_k"]:List Str).Nodup by decide+kernel) rfl (Or.inl rfl))) (λ_ _ _ _ _ _=>wK) (λ_ _ _ _ _ _=>wF)) (sE (HJ rfl (iJ rfl T.Ao (sE (pE 2) zE)) (x:="_law_k") (fs:=[]) (ix:=[]) rfl rfl (λ_ _ _ _ _ _=>(KG (i:=0) (show (["_law_k"]:List Str).Nodup by decide+kernel) rfl (Or.inl rfl))) (λ_ _ _ _ _ _=>wK) (λ_ _ _ _ _ _=>wF)) (sE EE zE)))))
   (zF (xF (i:=5) lK.nd rfl (Or.inl rfl) (QF (iY rfl) rfl T.Fq PyProof.Rows.boot_max (sE EE (sE (jF bY (jF PH (pE 1) (pE 2)) (jF VG (jF pJ (DG At (hr.mono (by decide)) nF (sE (pE 0) (sE EE zE))) EE) EE)) zE))))
   (zF (GJ jB rfl (iJ rfl T.Ao (sE (pE 5) zE)) (KG (i:=6) lK.nd rfl (Or.inl rfl)) (ME (qH (DG Eu (hr.mono (by decide)) nF (sE (pE 3) (sE (pE 4) (sE (pE 0) (sE (pE 6) zE))))))))
   (zF (VF (PW.pt (UO (uK (pI (DG Cn (hr.mono (by decide)) nF (sE (pE 3) (sE (pE 4) zE))))) (SO (uK (pI (DG Cn (hr.mono (by decide)) nF (sE (pE 3) (sE (pE 4) zE)))))))) (ME (KF tK)) mG)
   (zF (vP (i:=7) lK.nd rfl rfl rfl (FJ (IE eF (pE 4) EE (λ_ _=>rfl))) (x:="_law_one") (fs:=[]) (ix:=[]) rfl rfl (λ_ _ _ _ _ _=>(KG (i:=0) (show (["_law_one"]:List Str).Nodup by decide+kernel) rfl (Or.inl rfl))) (λ_ _ _ _ _ _=>(LM (BF cI (pE 0) wF (uE _)))) (λ_ _ _ _ _ _=>(pE 0)))
   (zF (xF (i:=7) lK.nd rfl (Or.inl rfl) (jF ES (pE 7) (HJ rfl (FJ (IE eF (pE 4) EE (λ_ _=>rfl))) (x:="_law_one") (fs:=[]) (ix:=[]) rfl rfl (λ_ _ _ _ _ _=>(KG (i:=0) (show (["_law_one"]:List Str).Nodup by decide+kernel) rfl (Or.inl rfl))) (λ_ _ _ _ _ _=>(LM (PW.pt (hJ (BF cI (pE 0) wF (uE _)) (gJ (BF bI (IE (NK (K:=K) rfl) (pE 0) EE (λ_ _=>rfl)) wF (uE _))))))) (λ_ _ _ _ _ _=>(pE 0)))))
   (zF (VF (BF YQ (QF MG rfl T.Aj PySem.boot_len (sE (pE 7) zE)) (jF PH (pE 1) (pE 2)) (uE _)) (ME (qH (DG Eu (hr.mono (by decide)) nF (sE (pE 3) (sE (pE 4) (sE (pE 0) (sE (pE 5) zE))))))) mG)
   (ME (KF (DG Cn (hr.mono (by decide)) nF (sE (pE 3) (sE (pE 4) zE)))))))))))))))),?_⟩
 walk_at "wp"
 refine⟨0,rfl,hs,by omega,_,rfl,1,rfl,hs,by omega,_,rfl,?_⟩
 generalize ns.getD (Int.toNat 0) 0=y0
 generalize ns.getD (Int.toNat 1) 0=y1
 refine⟨λσ G=>∃n m:Nat,σ=[some (.ref a),some (.int (n:Int)),some (.int (m:Int)),none,none,none,none,none]/\G=H/\1<=n/\n<=20/\m<=20,?_,λσ0 G0=>?_⟩
 ·walk_at "wp"
  refine⟨0,rfl,hs,by omega,_,rfl,?_⟩
  generalize ns.getD (Int.toNat 0) 0=y2
  refine fI (λ_=>⟨0,rfl,hs,by omega,_,rfl,0,rfl,hs,by omega,_,rfl,?_⟩) (λ_=>⟨(1+y0 % 5).toNat,by omega,(y1 % 6).toNat,by omega,rfl,by omega,by omega,by omega⟩)
  generalize ns.getD (Int.toNat 0) 0=y3
  exact⟨(1+y3 / 20 % 20).toNat,by omega,(y3 / 400 % 21).toNat,by omega,rfl,by omega,by omega,by omega⟩
 rintro⟨n,m,rfl,rfl,hn1,hn20,hm20⟩
 refine⟨λσ G=>∃z:Ss,σ=[some (.ref a),some (.int (n:Int)),some (.int (m:Int)),some (.ref z.p),none,none,none,none]/\vE G0 G/\yE A.Aa A.Ad A.Ac G z (II n m)/\∀c∈z.four,G0 c=none,?_,λσ2 G2=>?_⟩
 ·walk_at "wp"
  intro x dx hx hdx hne
  have sm:=fR (o:=.ins A.Aa dx []) hx hdx hne
  refine⟨x,dx,n,m,2,rfl,bF,hn1,by omega,by omega,λH' y hy e1 e2 kp=>⟨rfl,?_⟩⟩
  subst e1
  exact⟨y,rfl,λc o h=>kp c o (sm c o h) (λz=>NF h hx (kA.mp z)),hy,λc hc=>cG sm (e2 c hc)⟩
 rintro⟨z,rfl,s2,hS2,f2⟩
 obtain⟨L0,hScr0,hLv0,hL05⟩:=DJ.of hs
 have hScr2:DJ K G2 L0 a (ns.map V.int):=hScr0.zv (Zv.of (S:=[]) s2) (by simp)
 have hLv2:=hLv0.same s2
 have l02:∀c∈z.four,L0 c=0:=λc hc=>ZC λe=>by
  obtain⟨us,h⟩:=hLv0 c e
  rw[f2 c hc] at h;cases h
 refine⟨λσ G=>∃(L:Lb) (pl fl sl:Addr),σ=[some (.ref a),some (.int (n:Int)),some (.int (m:Int)),some (.ref z.p),some (.ref pl),none,none,none]/\Lw K A z n m 0 pl fl sl a ns (II n m) L (II n m) G,?_,λσ3 G3=>?_⟩
 ·walk_at "wp"
  refine⟨by omega,by omega,λfl hfl=>?_⟩
  refine LK (λi ys σ H'=>∃(v:Option V),σ=[v]/\vE G2 H'/\H' fl=some (.lst ys)/\ys=List.replicate i V.non) ⟨_,rfl,WF sF hfl,bF,rfl⟩ (λi ys σ H' hi=>?_) (λys σ H5=>?_)
  ·rintro⟨v,rfl,s1,hD1,rfl⟩
   walk_at "wp"
   exact⟨hD1,by rw[FA];omega,pH s1 hfl,by rw[<-List.replicate_succ'];rfl⟩
  rintro⟨v,rfl,s1,hD1,rfl⟩
  rw[vB] at hD1
  refine⟨by omega,by omega,λsl hsl=>?_⟩
  refine LK (λi ys σ H'=>∃(v:Option V),σ=[v]/\vE H5 H'/\H' sl=some (.lst ys)/\ys=List.replicate i V.non) ⟨_,rfl,WF sF hsl,bF,rfl⟩ (λi ys σ H' hi=>?_) (λys σ H6=>?_)
  ·rintro⟨v,rfl,s1,hD1,rfl⟩
   walk_at "wp"
   exact⟨hD1,by rw[FA];omega,pH s1 hsl,by rw[<-List.replicate_succ'];rfl⟩
  rintro⟨v,rfl,s6,hD6,rfl⟩
  rw[vB] at hD6
  intro pl hpl
  obtain⟨a3,b3⟩:=UF (o:=.lst [V.ref fl,V.ref sl,V.int 0]) hpl
  have hD16:=s6 _ _ hD1
  have e1:pl≠fl:=λe=>by rw[e,hD16] at hpl;cases hpl
  have e2:pl≠sl:=λe=>by rw[e,hD6] at hpl;cases hpl
  have e3:fl≠sl:=NF hD1 hsl
  have s26:=s1.trans s6
  obtain⟨x1,x2,x3⟩:=vb hS2 l02 hLv2 (s26.trans a3) (cG s26 hpl) hfl (cG s1 hsl) ⟨e1,e2,e3⟩ b3 (a3 _ _ hD16) (a3 _ _ hD6)
  exact⟨_,fl,sl,x1,x2,wb,hScr2.zv (x3.zv hLv2 (by simp)) (by simp)⟩
 rintro⟨L3,pl,fl,sl,rfl,W3⟩
 clear hScr0 hLv0 hL05 hScr2 hLv2 l02 hS2
 refine⟨λσ G=>∃many:Nat,σ=[some (.ref a),some (.int (n:Int)),some (.int (m:Int)),some (.ref z.p),some (.ref pl),some (.int (many:Int)),none,none]/\G=G3/\many<=n+m,?_,λσ4 G4=>?_⟩
 ·walk_at "wp"
  refine⟨1,rfl,W3.sc.sq,by omega,_,rfl,?_⟩
  generalize ns.getD (Int.toNat 1) 0=y2
  exact⟨(if (n:Int)+(m:Int) - y2 / 6 % 4 > 1 then (n:Int)+(m:Int) - y2 / 6 % 4 else 1).toNat,by split<;>omega,rfl,by split<;>omega⟩
 rintro⟨many,rfl,rfl,hmy⟩
 refine⟨λσ G=>∃v7 s L p,σ=[some (.ref a),some (.int (n:Int)),some (.int (m:Int)),some (.ref z.p),some (.ref pl),some (.int (many:Int)),v7,none]/\Lw K A z n m many pl fl sl a ns s L p G,?_,λσ5 G5=>?_⟩
 ·walk_at "wp"
  refine⟨by omega,by omega,oO (λk σ G=>∃v7 s L p,σ=[some (.ref a),some (.int (n:Int)),some (.int (m:Int)),some (.ref z.p),some (.ref pl),some (.int (many:Int)),v7,none]/\FF s=k/\Lw K A z n m k pl fl sl a ns s L p G) ⟨_,_,_,_,rfl,?_,W3⟩ (λk σ G hk=>?_) (λσ G=>?_)⟩
  ·rw[LQ,hV];rfl
  ·rintro⟨v7,s,L,p,rfl,hlv,W⟩
   rw[zB]
   have h1:=W.me.fr
   have h2:=W.me.sr
   walk_at "wp"
   refine⟨z,s,L,pl,fl,sl,p,n,m,k,rfl,W.cx,W.ap,W.me,by omega,by unfold room;omega,W.sc,λH' L' s' p' x1 x2 x3 x4 x5=>?_⟩
   exact⟨s',by omega,L',p',x1,x2,x3,W.sc.zv x5 (by decide)⟩
  ·rintro⟨v7,s,L,p,rfl,hlv,W⟩
   rw[vB] at W
   exact⟨_,rfl,s,L,p,W⟩
 rintro⟨v7,s5,L5,p5,rfl,W5⟩
 clear W3
 refine⟨λσ G=>∃s L p,σ=[some (.ref a),some (.int (n:Int)),some (.int (m:Int)),some (.ref z.p),some (.ref pl),some (.int (many:Int)),v7,none]/\Lw K A z n m many pl fl sl a ns s L p G,?_,λσ7 G7=>?_⟩
 ·walk_at "wp"
  refine⟨z,s5,L5,pl,fl,sl,p5,n,m,many,rfl,W5.cx,W5.ap,W5.me,by omega,λH1 L1 p1 x1 x2 x3=>⟨_,rfl,gF ?_⟩⟩
  have W6:=W5.rgt (by omega) x1 x2 x3
  refine⟨z,_,L1,pl,fl,sl,p1,n,m,many,rfl,W6.cx,W6.ap,W6.me,by omega,λH2 Lz' p2 y1 y2 y3=>⟨_,rfl,gF ?_⟩⟩
  exact⟨_,Lz',p2,W6.rgt (by omega) y1 y2 y3⟩
 rintro⟨s,L,p,rfl,W7⟩
 clear W5
 have C7:=W7.cx
 have h64:=C7.ss.len
 have hlen:=C7.len
 refine⟨λσ G=>∃fu,σ=[some (.ref a),some (.int (n:Int)),some (.int (m:Int)),some (.ref z.p),some (.ref pl),some (.int (many:Int)),v7,some (.ref fu)]/\vE G7 G/\∃us,G fu=some (.lst us)/\us.length=yG p.fr,?_,λσ8 G8=>?_⟩
 ·obtain⟨us4,hf4,hul4,hr4⟩:=C7.lp.q.hf
  have hln4:=C7.lp.q.ln
  walk_at "wp"
  refine⟨_,xE.of C7.lp.q.hp,_,HE (j:=0) rfl,fl,rfl,⟨_,xE.of hf4⟩,λD hD=>MM (xs:=us4) (λk ys σ H'=>∃v,σ=[v]/\vE G7 H'/\H' D=some (.lst ys)/\ys.length=yG (p.fr.take k)) ⟨_,rfl,WF sF hD,bF,rfl⟩ (λk ys σ H' _ ⟨_,_,e,_⟩=>xE.of (e _ _ hf4)) (λk v ys σ H' hk=>?_) (λys σ H'=>?_)⟩
  ·rintro⟨v',rfl,s5,hD5,hl5⟩
   have hkl:=(aA.mp hk).1
   obtain⟨r,hr⟩:∃r,p.fr[k]?=some r:=⟨_,bA (by omega)⟩
   obtain⟨o,ho⟩:∃o,p.tf[k]?=some o:=⟨_,bA (by omega)⟩
   obtain⟨v2,hv2,hF2⟩:=hr4 k r o hr ho
   rw[hk] at hv2
   obtain rfl:v=v2:=cA hv2
   have hcl:=NL (rows:=p.fr.take k)
   rw[XA] at hcl
   walk_at "wp"
   cases r with
   |none=>
    obtain rfl:v=.non:=hF2
    exact KJ (by rw[AA rfl];rfl) ⟨s5,hD5,by rw[hl5,KO hr]⟩
   |some r=>
    obtain⟨rfl,_⟩:=hF2
    exact EI (by rw[vA (λz=>nomatch z)];rfl) ⟨hD5,by omega,pH s5 hD,by rw[nA,hl5,kS hr];rfl⟩
  ·rintro⟨v',rfl,s5,hD5,hl5⟩
   rw[hul4,mB] at hl5
   exact⟨s5,_,hD5,hl5⟩
 rintro⟨fu,rfl,s8,us8,fu8,ul8⟩
 have C8:=C7.same s8
 refine⟨λσ G=>∃fu,σ=[some (.ref a),some (.int (n:Int)),some (.int (m:Int)),some (.ref z.p),some (.ref pl),some (.int (many:Int)),v7,some (.ref fu)]/\vE G8 G/\∃us,G fu=some (.lst us)/\us.length=yG p.fr+yG p.sr,?_,λσ9 G9=>?_⟩
 ·obtain⟨us4,hf4,hul4,hr4⟩:=C8.lp.q.hs
  have hln4:=C8.lp.q.ln
  walk_at "wp"
  refine⟨_,xE.of C8.lp.q.hp,_,HE (j:=1) rfl,sl,rfl,⟨_,xE.of hf4⟩,λD hD=>MM (xs:=us4) (λk ys σ H'=>∃v,σ=[v]/\vE G8 H'/\H' D=some (.lst ys)/\ys.length=yG (p.sr.take k)) ⟨_,rfl,WF sF hD,bF,rfl⟩ (λk ys σ H' _ ⟨_,_,e,_⟩=>xE.of (e _ _ hf4)) (λk v ys σ H' hk=>?_) (λys σ H'=>?_)⟩
  ·rintro⟨v',rfl,s6,hD5,hl5⟩
   have hkl:=(aA.mp hk).1
   obtain⟨r,hr⟩:∃r,p.sr[k]?=some r:=⟨_,bA (by omega)⟩
   obtain⟨o,ho⟩:∃o,p.ts[k]?=some o:=⟨_,bA (by omega)⟩
   obtain⟨v2,hv2,hF2⟩:=hr4 k r o hr ho
   rw[hk] at hv2
   obtain rfl:v=v2:=cA hv2
   have hcl:=NL (rows:=p.sr.take k)
   rw[XA] at hcl
   walk_at "wp"
   cases r with
   |none=>
    cases o with
    |none=>
     obtain rfl:v=.non:=hF2
     exact KJ (by rw[AA rfl];rfl) ⟨s6,hD5,by rw[hl5,KO hr]⟩
    |some i=>
     obtain⟨a9,ba,ha,rfl,x1,_⟩:=hF2
     refine EI (by rw[vA (λz=>nomatch z)];rfl) ⟨_,rfl,_,xE.of (s6 _ _ x1),_,HE (j:=2) rfl,?_⟩
     rw[fA (by simp)]
     exact⟨s6,hD5,by rw[hl5,KO hr]⟩
   |some r=>
    obtain⟨rfl,x1,_⟩:=hF2
    refine EI (by rw[vA (λz=>nomatch z)];rfl) ⟨_,rfl,_,xE.of (s6 _ _ x1),oV none,HE (j:=2) rfl,?_⟩
    rw[iA (by simp[oV])]
    exact⟨hD5,by omega,pH s6 hD,by rw[nA,hl5,kS hr];rfl⟩
  ·rintro⟨v',rfl,s6,hD5,hl5⟩
   rw[hul4,mB] at hl5
   have hc1:=NL (rows:=p.fr)
   have hc2:=NL (rows:=p.sr)
   refine⟨us8,s6 _ _ fu8,ys,hD5,by omega,λq hq=>⟨s6.trans (WF sF hq),_,rfl,by rw[nA,ul8,hl5]⟩⟩
 rintro⟨fu9,rfl,s9,us9,hfu9,ul9⟩
 have W9:=W7.same (s8.trans s9)
 refine⟨λσ G=>∃t s L p,t<=100/\σ=[some (.ref a),some (.int (n:Int)),some (.int (m:Int)),some (.ref z.p),some (.ref pl),some (.int (many:Int)),v7,some (.ref fu9)]/\Lw K A z n m t pl fl sl a ns s L p G,?_,λσ10 G10=>?_⟩
 ·walk_at "wp"
  refine⟨us9.length,.inl ⟨_,xE.of hfu9,rfl⟩,?_⟩
  refine fI (λhlt=>?_) (λ_=>⟨many,by omega,s,L,p,W9⟩)
  have h1:=W9.me.fr
  have h2:=W9.me.sr
  have e1:=lS C7.si.fr
  have e2:=lS C7.si.sr
  refine⟨z,s,L,pl,fl,sl,p,n,m,many,rfl,W9.cx,W9.ap,W9.me,by omega,by unfold room FF;omega,W9.sc,λH' L' s' p' x1 x2 x3 x4 x5=>?_⟩
  exact⟨many+1,by omega,s',L',p',x1,x2,x3,W9.sc.zv x5 (by decide)⟩
 rintro⟨t,s,L,p,ht,rfl,W⟩
 walk_at "wp"
 exact⟨z,s,L,pl,fl,sl,p,n,m,t,rfl,W.cx,W.ap,W.me,ht,λH' _ _ _ _ _=>qq H'⟩
end
theorem iV {l:PySem.W.OpenLaw} {q:Program} {loose:List Str} {XP:(Str->Option Value)->Heap->Prop} {YP:World->Heap->Prop} {d:DefRec} {K:Params->PySem.W.Frag} (hn:l.most=some 63) (hdf:d.params.defaults=[]) (hdn:d.name="law")
  (hY:∀(w:World) (h:Heap),YP w h->(K w.params).In h)
  (F:∀(w:World) (mg:Str->Option Value) (h:Heap),(K w.params).In h->h.Ns mainGlobals mg->∃A:mI,bG (K w.params) mg A):
  PySem.W.WalkO q loose XP YP l.row.toRowW d [] (λf vs=>PySem.call f vs):=by
 refine L2.i6 (n:=63) (k:=12+1) (x:="_law_script") (CX:=λw=>wI l.prog w) (sp:=λw=>lM (K w.params)) hn (by decide) hdf ⟨rfl,by decide,by decide⟩ hY ?_ (λ_ _ a ns hl _ hS=>⟨a,ns,rfl,hS,hl,λ_=>rfl⟩) λ_ _ _ _ _ ⟨_,_,_,_,_,_,_,_,_,_,z⟩=>z
 intro w mg fa h KX G hmg
 rw[hdn] at hmg
 obtain⟨A,T⟩:=F w mg h KX G
 obtain⟨f,fd,e,Fn,hb⟩:=T.Gg
 have e0:=hmg.symm.trans e
 cases e0
 exact⟨fd,hb,λbase _ _=>Fn.okE lK (λvs H Q E z=>by obtain⟨a,ns,rfl,_⟩:=z;rfl) (xb (P:=l.prog) (w:=w) (base:=base) T)⟩
noncomputable section
open Hd
noncomputable def z0:Nat:=205764524536662382283787175989148854561027363216390428289824792159744189037
noncomputable def z1:Nat:=27127582262911072
noncomputable def z2:Nat:=9700865007064396754801562313776
noncomputable def z3:Nat:=545146499936607105348423
noncomputable def z4:Nat:=122585060169398306681810272
noncomputable def z5:Nat:=497995685371741280038240
noncomputable def z6:Nat:=554461310576473642528096
noncomputable def z7:Nat:=455125450472104437637216
noncomputable def z8:Nat:=500416517772168279997240570217455712
noncomputable def z9:Nat:=140854816109632365363434125429399349832812124725344
noncomputable def mM:Nat:=116512133262362862868258912
noncomputable def HG:Nat:=1735222900
noncomputable def OQ:Nat:=126883625529449
noncomputable def MO:Nat:=6944679725401530464
noncomputable def TK:Nat:=604688386180134175214183720302048103
noncomputable def NO:Nat:=6944679699547512928
noncomputable def UK:Nat:=504229161332
noncomputable def dH:Nat:=154800023163187350263413837515144196967
noncomputable def WK:Nat:=1970303348
noncomputable def nM:Nat:=439938610023
noncomputable def jV:Nat:=133512874028327697487130724
noncomputable def PQ:Nat:=526145126919991160106336
noncomputable def lV:Nat:=549795074702062171352416
noncomputable def s (n t:Nat):Value:=.str (S n) t
noncomputable def i (n:Int):Value:=.int n 0
noncomputable def e (P:Params) (n t:Nat) (v:Value):DictEntry:=R7 P (S n) t v
noncomputable def fO (a b:String) (x:Stmt) (m r:Value):Obj:=⟨.type "function",none,.func (PySem.W.fnOf (Str.ofString a) (Str.ofString b) (qF x) (dF x) (qE x) .none .none .none m none r .none), #[]⟩
noncomputable def o2 (_:Params):Obj:=⟨.none,none,.dict ⟨[]⟩ 0, #[]⟩
noncomputable def o3 (P:Params):Obj:=dO 28 [e P 6944663249689206880 165 (s z0 607),e P z1 166 .none,e P 116512114954948911152848992 167 .none,e P 455126385231797511086176 168 (.builtin "__main__.__loader__#opaque"),e P 6944661016558198880 169 .none,e P 500416834696884185539869749159288928 170 (.ref 6),e P 29827167671303893903271485536 171 (.ref 4),e P 6944663245527933024 173 (s z2 172),e P 455125376429887381069920 174 .none,e P 469986605152 193 (.ref 21),e P z3 213 (.ref 31),e P 121429199908943 229 (.ref 44),e P 504413714548 241 (.ref 53),e P 504229161300 287 (.ref 82),e P 500186509652 340 (.ref 122),e P 128047577983316 606 (.ref 314),e P 2018578202597599112544 616 (.ref 325),e P 1889380072283105815904 625 (.ref 332),e P 8464076109328313696 640 (.ref 339),e P 1871007083449387478368 650 (.ref 346),e P 33040738751245664 658 (.ref 353),e P 1889597928417521724768 667 (.ref 360),e P z4 673 (.ref 365),e P z5 685 (.ref 372),e P 1999481813178129739104 698 (.ref 379),e P 1888873418424538262880 704 (.ref 384),e P z6 710 (.ref 389),e P 7889517 716 (.ref 394)]
noncomputable def XE (_:Params):Obj:=tO []
noncomputable def yb (_:Params):Obj:=tO [s 108 190]
noncomputable def zb (_:Params):Obj:=cO [s 469986605152 187,s 469986605152 188,s z2 189,i 1,i 1,i 0,i 0,i 3,.ref 15,(.bool true),i 181,.ref 16,.none,.ref 17,.ref 18,.ref 19,i 191,i 1,s z2 192]
noncomputable def Hb (_:Params):Obj:=fO "_wall" "_wall" (UE 0) (s 6944673128113922144 164) (.ref 20)
noncomputable def Ib (_:Params):Obj:=⟨(.type "tuple"),none,.seq #[(.type "ValueError")] 0, #[]⟩
noncomputable def M3 (_:Params):Obj:=⟨(.type "tuple"),none,.seq #[] 0, #[]⟩
noncomputable def Jb (P:Params):Obj:=dO 3 [e P z7 203 (s 154789842426610354947036250589871895399 194),e P z8 207 (.int (5) 206),e P z9 208 (.ref 29),e P mM 210 (.ref 32),e P z1 211 .none]
noncomputable def Kb (_:Params):Obj:=⟨(.type "type"),none,.cls {name:=(Str.ofString "FrameError"),bases:=[(.type "ValueError")],mro:=[.ref 31,(.type "ValueError"),(.type "Exception"),(.type "BaseException"),(.type "object")],ns:=30,qualname:=(Str.ofString "FrameError"),hasDict:=true,slotNames:=[],subclasses:=[.ref 44],abstract:=false,collection:=none,hasDel:=false}, #[(some (.ref 22)),none,(some (s z3 196)),(some (s z3 204)),(some (.builtin "ValueError.__new__")),(some (.bool true))]⟩
noncomputable def Mb (_:Params):Obj:=⟨(.type "getset_descriptor"),none,.fields ⟨[s mM 209,.ref 31,(.builtin "ExceptionGroup.__weakref__"),.none]⟩, #[]⟩
noncomputable def Nb (_:Params):Obj:=⟨(.type "tuple"),none,.seq #[.ref 31] 0, #[]⟩
noncomputable def Ob (P:Params):Obj:=dO 2 [e P z7 221 (s 154789842426610354947036250589871895399 194),e P z8 225 (.int (7) 224),e P z9 226 (.ref 42),e P z1 227 .none]
noncomputable def Pb (_:Params):Obj:=⟨(.type "type"),none,.cls {name:=(Str.ofString "NoRoom"),bases:=[.ref 31],mro:=[.ref 44,.ref 31,(.type "ValueError"),(.type "Exception"),(.type "BaseException"),(.type "object")],ns:=43,qualname:=(Str.ofString "NoRoom"),hasDict:=true,slotNames:=[],subclasses:=[],abstract:=false,collection:=none,hasDel:=false}, #[(some (.ref 35)),none,(some (s 121429199908943 214)),(some (s 121429199908943 222)),(some (.builtin "ValueError.__new__")),(some (.bool true))]⟩
noncomputable def Qb (_:Params):Obj:=tO [s 500035707502 235,s 1701798505 236,s 111490714854001 237,s 439770836337 238]
noncomputable def Rb (_:Params):Obj:=cO [s 504413714548 232,s 504413714548 233,s z2 234,i 10,i 2,i 0,i 0,i 3,.ref 47,(.bool true),i 181,.ref 48,.none,.ref 49,.ref 50,.ref 51,i 239,i 10,s z2 240]
noncomputable def Tb (_:Params):Obj:=fO "swept" "swept" (UE 5) (s 604424633459520194665304702243205991 230) (.ref 52)
noncomputable def Ub (_:Params):Obj:=tO [s HG 259,s 499935440995 260,s OQ 261]
noncomputable def Vb (_:Params):Obj:=cO [s MO 256,s 1954753563970360692704800173091156 257,s z2 258,i 20,i 3,i 0,i 0,i 3,.ref 61,(.bool true),i 181,.ref 62,.none,.ref 63,.ref 64,.ref 65,i 262,i 20,s z2 263]
noncomputable def Wb (_:Params):Obj:=fO "__init__" "Sheet.__init__" (rE (UE 7) 0) (s TK 242) (.ref 66)
noncomputable def Xb (_:Params):Obj:=tO [s HG 268]
noncomputable def Yb (_:Params):Obj:=cO [s 36039771160920033285907509365 265,s 10144293748177338121204804511615218490960212 266,s z2 267,i 24,i 1,i 0,i 0,i 3,.ref 68,(.bool true),i 181,.ref 69,.none,.ref 70,.ref 71,.ref 72,i 269,i 24,s z2 270]
noncomputable def Zb (_:Params):Obj:=fO "told_holders" "Sheet.told_holders" (rE (UE 7) 1) (s TK 242) (.ref 73)
noncomputable def cc (_:Params):Obj:=cO [s 1870501547802382857322 272,s 526499379604921715462623747400690004 273,s z2 274,i 27,i 1,i 0,i 0,i 3,.ref 75,(.bool true),i 181,.ref 76,.none,.none,.none,.ref 77,i 275,i 27,s z2 276]
noncomputable def dc (_:Params):Obj:=fO "is_banked" "Sheet.is_banked" (rE (UE 7) 2) (s TK 242) (.ref 78)
noncomputable def fc (_:Params):Obj:=⟨(.type "tuple"),none,.seq #[(.str (Str.ofString "boxes") 278),(.str (Str.ofString "holders") 279)] 0, #[]⟩
noncomputable def gc (P:Params):Obj:=dO 4 [e P z7 251 (s TK 242),e P z8 255 (.int (18) 254),e P MO 264 (.ref 67),e P 36039771160920033285907509365 271 (.ref 74),e P 1870501547802382857322 277 (.ref 79),e P z9 280 (.ref 80),e P NO 282 (.ref 83),e P mM 284 (.ref 84),e P z1 285 .none]
noncomputable def ic (_:Params):Obj:=⟨(.type "type"),none,.cls {name:=(Str.ofString "Sheet"),bases:=[(.type "object")],mro:=[.ref 82,(.type "object")],ns:=81,qualname:=(Str.ofString "Sheet"),hasDict:=true,slotNames:=[],subclasses:=[],abstract:=false,collection:=none,hasDel:=false}, #[none,none,(some (s 504229161300 244)),(some (s 504229161300 252)),(some (.builtin "object.__new__")),(some (.bool true))]⟩
noncomputable def jc (_:Params):Obj:=⟨(.type "getset_descriptor"),none,.fields ⟨[s NO 281,.ref 82,(.builtin "function.__dict__"),(.builtin "function.__dict__#set")]⟩, #[]⟩
noncomputable def lc (_:Params):Obj:=⟨(.type "getset_descriptor"),none,.fields ⟨[s mM 283,.ref 82,(.builtin "ExceptionGroup.__weakref__"),.none]⟩, #[]⟩
noncomputable def pc (_:Params):Obj:=tO [s HG 303,s 2054120046 304]
noncomputable def qc (_:Params):Obj:=cO [s MO 300,s 1954753563970360692704796130439508 301,s z2 302,i 31,i 2,i 0,i 0,i 3,.ref 94,(.bool true),i 181,.ref 95,.none,.ref 96,.ref 97,.ref 98,i 305,i 31,s z2 306]
noncomputable def mV (_:Params):Obj:=fO "__init__" "Spots.__init__" (rE (UE 8) 0) (s TK 242) (.ref 99)
noncomputable def nV (_:Params):Obj:=tO [s HG 311,s 439770836337 312,s UK 313]
noncomputable def pV (_:Params):Obj:=cO [s 148043559308712686361209447 308,s 41670557408582523668509479316187165782356 309,s z2 310,i 35,i 1,i 0,i 0,i 3,.ref 101,(.bool true),i 181,.ref 102,.none,.ref 103,.ref 104,.ref 105,i 314,i 35,s z2 315]
noncomputable def qV (_:Params):Obj:=fO "first_empty" "Spots.first_empty" (rE (UE 8) 1) (s TK 242) (.ref 106)
noncomputable def rV (_:Params):Obj:=tO [s HG 320,s 1869248629 321]
noncomputable def sV (_:Params):Obj:=cO [s 526146714420258238851687 317,s 148097134187830361177623957051129491796 318,s z2 319,i 41,i 1,i 0,i 0,i 3,.ref 108,(.bool true),i 181,.ref 109,.none,.ref 110,.ref 111,.ref 112,i 322,i 41,s z2 323]
noncomputable def tV (_:Params):Obj:=fO "first_twin" "Spots.first_twin" (rE (UE 8) 2) (s TK 242) (.ref 113)
noncomputable def uV (_:Params):Obj:=cO [s 554573001519589316061805 325,s 156098422687084997236258294064131109204 326,s z2 327,i 47,i 1,i 0,i 0,i 3,.ref 115,(.bool true),i 181,.ref 116,.none,.none,.none,.ref 117,i 328,i 47,s z2 329]
noncomputable def vV (_:Params):Obj:=fO "live_count" "Spots.live_count" (rE (UE 8) 3) (s TK 242) (.ref 118)
noncomputable def wV (_:Params):Obj:=⟨(.type "tuple"),none,.seq #[(.str (Str.ofString "lying") 331),(.str (Str.ofString "twins") 332)] 0, #[]⟩
noncomputable def xV (P:Params):Obj:=dO 4 [e P z7 295 (s TK 242),e P z8 299 (.int (29) 298),e P MO 307 (.ref 100),e P 148043559308712686361209447 316 (.ref 107),e P 526146714420258238851687 324 (.ref 114),e P 554573001519589316061805 330 (.ref 119),e P z9 333 (.ref 120),e P NO 335 (.ref 123),e P mM 337 (.ref 124),e P z1 338 .none]
noncomputable def yV (_:Params):Obj:=⟨(.type "type"),none,.cls {name:=(Str.ofString "Spots"),bases:=[(.type "object")],mro:=[.ref 122,(.type "object")],ns:=121,qualname:=(Str.ofString "Spots"),hasDict:=true,slotNames:=[],subclasses:=[],abstract:=false,collection:=none,hasDel:=false}, #[none,none,(some (s 500186509652 288)),(some (s 500186509652 296)),(some (.builtin "object.__new__")),(some (.bool true))]⟩
noncomputable def zV (_:Params):Obj:=⟨(.type "getset_descriptor"),none,.fields ⟨[s NO 334,.ref 122,(.builtin "function.__dict__"),(.builtin "function.__dict__#set")]⟩, #[]⟩
noncomputable def AV (_:Params):Obj:=⟨(.type "getset_descriptor"),none,.fields ⟨[s mM 336,.ref 122,(.builtin "ExceptionGroup.__weakref__"),.none]⟩, #[]⟩
noncomputable def BV (_:Params):Obj:=tO [s HG 358,s 127983287432039 359,s 500186508660 360,s 1719364212 361]
noncomputable def CV (_:Params):Obj:=cO [s MO 355,s 500416912376412337332427809224026452 356,s z2 357,i 52,i 4,i 0,i 0,i 3,.ref 134,(.bool true),i 181,.ref 135,.none,.ref 136,.ref 137,.ref 138,i 362,i 52,s z2 363]
noncomputable def DV (_:Params):Obj:=fO "__init__" "Sheets.__init__" (rE (UE 10) 0) (s dH 341) (.ref 139)
noncomputable def EV (_:Params):Obj:=tO [s HG 368,s UK 369,s OQ 370,s 500035707502 371,s 8020600 372]
noncomputable def FV (_:Params):Obj:=cO [s 452924437351 365,s 32636645236508639938168121684 366,s z2 367,i 61,i 4,i 0,i 0,i 3,.ref 141,(.bool true),i 181,.ref 142,.none,.ref 143,.ref 144,.ref 145,i 373,i 61,s z2 374]
noncomputable def GV (_:Params):Obj:=fO "fresh" "Sheets.fresh" (rE (UE 10) 1) (s dH 341) (.ref 146)
noncomputable def HV (_:Params):Obj:=tO [s HG 379,s 1970302324 380,s 500035707502 381,s 114827736281188 382,s 8020600 383]
noncomputable def IV (_:Params):Obj:=cO [s 1818518115 376,s 131038040094645320163944788 377,s z2 378,i 68,i 3,i 0,i 0,i 3,.ref 148,(.bool true),i 181,.ref 149,.none,.ref 150,.ref 151,.ref 152,i 384,i 68,s z2 385]
noncomputable def JV (_:Params):Obj:=fO "back" "Sheets.back" (rE (UE 10) 2) (s dH 341) (.ref 153)
noncomputable def LV (_:Params):Obj:=tO [s HG 390,s WK 391,s OQ 392,s UK 393]
noncomputable def MV (_:Params):Obj:=cO [s 1701671017 387,s 122618319342451338909215060 388,s z2 389,i 79,i 3,i 0,i 0,i 3,.ref 155,(.bool true),i 181,.ref 156,.none,.ref 157,.ref 158,.ref 159,i 394,i 79,s z2 395]
noncomputable def NV (_:Params):Obj:=fO "hold" "Sheets.hold" (rE (UE 10) 3) (s dH 341) (.ref 160)
noncomputable def OV (_:Params):Obj:=tO [s HG 400,s WK 401,s OQ 402]
noncomputable def PV (_:Params):Obj:=cO [s 123593597216365 397,s 8905857253904022728413553256788 398,s z2 399,i 83,i 3,i 0,i 0,i 3,.ref 162,(.bool true),i 181,.ref 163,.none,.ref 164,.ref 165,.ref 166,i 403,i 83,s z2 404]
noncomputable def QV (_:Params):Obj:=fO "let_go" "Sheets.let_go" (rE (UE 10) 4) (s dH 341) (.ref 167)
noncomputable def RV (_:Params):Obj:=tO [s HG 409,s WK 410,s UK 411]
noncomputable def SV (_:Params):Obj:=cO [s 488476733378837491839081 406,s 35198458150785434460000437533358669850964 407,s z2 408,i 86,i 2,i 0,i 0,i 3,.ref 169,(.bool true),i 181,.ref 170,.none,.ref 171,.ref 172,.ref 173,i 412,i 86,s z2 413]
noncomputable def TV (_:Params):Obj:=fO "holders_of" "Sheets.holders_of" (rE (UE 10) 5) (s dH 341) (.ref 174)
noncomputable def UV (_:Params):Obj:=tO [s HG 418,s WK 419]
noncomputable def VV (_:Params):Obj:=cO [s 36344496227587819637979312233 415,s 2618896954680526433690932518906927297180625236 416,s z2 417,i 90,i 2,i 0,i 0,i 3,.ref 176,(.bool true),i 181,.ref 177,.none,.ref 178,.ref 179,.ref 180,i 420,i 90,s z2 421]
noncomputable def WV (_:Params):Obj:=fO "holder_count" "Sheets.holder_count" (rE (UE 10) 6) (s dH 341) (.ref 181)
noncomputable def XV (_:Params):Obj:=tO [s HG 426,s WK 427,s UK 428]
noncomputable def YV (_:Params):Obj:=cO [s 8458429107500640628 423,s 609494050826874274975507821181167956 424,s z2 425,i 93,i 2,i 0,i 0,i 3,.ref 183,(.bool true),i 181,.ref 184,.none,.ref 185,.ref 186,.ref 187,i 429,i 93,s z2 430]
noncomputable def ZV (_:Params):Obj:=fO "sheet_at" "Sheets.sheet_at" (rE (UE 10) 7) (s dH 341) (.ref 188)
noncomputable def aW (_:Params):Obj:=tO [s HG 435,s nM 436,s 7958627 437]
noncomputable def bW (_:Params):Obj:=cO [s 113732352569443 432,s 8195279690427427246896753043796 433,s z2 434,i 97,i 3,i 0,i 0,i 3,.ref 190,(.bool true),i 181,.ref 191,.none,.ref 192,.ref 193,.ref 194,i 438,i 97,s z2 439]
noncomputable def cW (_:Params):Obj:=fO "box_of" "Sheets.box_of" (rE (UE 10) 8) (s dH 341) (.ref 195)
noncomputable def dW (_:Params):Obj:=tO [s HG 444,s nM 445,s 7958627 446,s 440073544311 447]
noncomputable def eW (_:Params):Obj:=cO [s 34182044304369268 441,s 2463075871870707541703845600454996 442,s z2 443,i 100,i 4,i 0,i 0,i 3,.ref 197,(.bool true),i 181,.ref 198,.none,.ref 199,.ref 200,.ref 201,i 448,i 100,s z2 449]
noncomputable def fW (_:Params):Obj:=fO "set_box" "Sheets.set_box" (rE (UE 10) 9) (s dH 341) (.ref 202)
noncomputable def gW (_:Params):Obj:=tO [s HG 454,s 2360878370155222899437929793546855 455,s 1718579304 456,s WK 457,s UK 458,s 504464894567 459]
noncomputable def hW (_:Params):Obj:=cO [s 1701671015 451,s 122618319198336150833359188 452,s z2 453,i 103,i 1,i 0,i 0,i 3,.ref 204,(.bool true),i 181,.ref 205,.none,.ref 206,.ref 207,.ref 208,i 460,i 103,s z2 461]
noncomputable def iW (_:Params):Obj:=fO "fold" "Sheets.fold" (rE (UE 10) 10) (s dH 341) (.ref 209)
noncomputable def jW (_:Params):Obj:=tO [s HG 466]
noncomputable def kW (_:Params):Obj:=cO [s 140789800901245672938236525 463,s 10144974318022661352875422811256588356446548 464,s z2 465,i 115,i 1,i 0,i 0,i 3,.ref 211,(.bool true),i 181,.ref 212,.none,.ref 213,.ref 214,.ref 215,i 467,i 115,s z2 468]
noncomputable def lW (_:Params):Obj:=fO "live_sheets" "Sheets.live_sheets" (rE (UE 10) 11) (s dH 341) (.ref 216)
noncomputable def mW (_:Params):Obj:=tO [s HG 473]
noncomputable def nW (_:Params):Obj:=cO [s 30801127769404522 470,s 2219455160718099884163236951910740 471,s z2 472,i 118,i 1,i 0,i 0,i 3,.ref 218,(.bool true),i 181,.ref 219,.none,.ref 220,.ref 221,.ref 222,i 474,i 118,s z2 475]
noncomputable def pW (_:Params):Obj:=fO "is_full" "Sheets.is_full" (rE (UE 10) 12) (s dH 341) (.ref 223)
noncomputable def qW (_:Params):Obj:=tO [s HG 480]
noncomputable def rW (_:Params):Obj:=cO [s 33040738433327721 477,s 2380836116742092014812639552498004 478,s z2 479,i 121,i 1,i 0,i 0,i 3,.ref 225,(.bool true),i 181,.ref 226,.none,.ref 227,.ref 228,.ref 229,i 481,i 121,s z2 482]
noncomputable def sW (_:Params):Obj:=fO "hand_at" "Sheets.hand_at" (rE (UE 10) 13) (s dH 341) (.ref 230)
noncomputable def tW (_:Params):Obj:=tO [s HG 487,s 1701671029 488,s nM 489,s UK 490]
noncomputable def uW (_:Params):Obj:=cO [s 140719112692525297883246709 484,s 10139880695775420249778937948812234134546772 485,s z2 486,i 124,i 1,i 0,i 0,i 3,.ref 232,(.bool true),i 181,.ref 233,.none,.ref 234,.ref 235,.ref 236,i 491,i 124,s z2 492]
noncomputable def vW (_:Params):Obj:=fO "told_frames" "Sheets.told_frames" (rE (UE 10) 14) (s dH 341) (.ref 237)
noncomputable def wW (_:Params):Obj:=cO [s 549960882328764939071605 494,s 39628857995586799648525390943893217241428 495,s z2 496,i 133,i 1,i 0,i 0,i 3,.ref 239,(.bool true),i 181,.ref 240,.none,.none,.none,.ref 241,i 497,i 133,s z2 498]
noncomputable def xW (_:Params):Obj:=fO "told_slots" "Sheets.told_slots" (rE (UE 10) 15) (s dH 341) (.ref 242)
noncomputable def yW (_:Params):Obj:=tO [s HG 503]
noncomputable def zW (_:Params):Obj:=cO [s 435510800494 500,s 31381860461143034575928584532 501,s z2 502,i 136,i 1,i 0,i 0,i 3,.ref 244,(.bool true),i 181,.ref 245,.none,.ref 246,.ref 247,.ref 248,i 504,i 136,s z2 505]
noncomputable def AW (_:Params):Obj:=fO "moved" "Sheets.moved" (rE (UE 10) 16) (s dH 341) (.ref 249)
noncomputable def BW (_:Params):Obj:=tO [s HG 510,s WK 511,s 500186509684 512]
noncomputable def CW (_:Params):Obj:=cO [s 8458429051817327213 507,s 609494046814468682230731163709106516 508,s z2 509,i 139,i 2,i 0,i 0,i 3,.ref 251,(.bool true),i 181,.ref 252,.none,.ref 253,.ref 254,.ref 255,i 513,i 139,s z2 514]
noncomputable def DW (_:Params):Obj:=fO "lying_at" "Sheets.lying_at" (rE (UE 10) 17) (s dH 341) (.ref 256)
noncomputable def EW (_:Params):Obj:=cO [s 2148284700994785078626 516,s 154800226862173623962013088011365280084 517,s z2 518,i 143,i 1,i 0,i 0,i 3,.ref 258,(.bool true),i 181,.ref 259,.none,.none,.none,.ref 260,i 519,i 143,s z2 520]
noncomputable def FW (_:Params):Obj:=fO "all_spots" "Sheets.all_spots" (rE (UE 10) 18) (s dH 341) (.ref 261)
noncomputable def GW (_:Params):Obj:=tO [s HG 525,s 1970302324 526,s UK 527,s nM 528]
noncomputable def HW (_:Params):Obj:=cO [s 2166370315886094282869 522,s 156103432757937886773936481808104712532 523,s z2 524,i 147,i 2,i 0,i 0,i 3,.ref 263,(.bool true),i 181,.ref 264,.none,.ref 265,.ref 266,.ref 267,i 529,i 147,s z2 530]
noncomputable def IW (_:Params):Obj:=fO "told_slot" "Sheets.told_slot" (rE (UE 10) 19) (s dH 341) (.ref 268)
noncomputable def JW (_:Params):Obj:=tO [s HG 535,s WK 536,s 495639426416 537,s OQ 538]
noncomputable def KW (_:Params):Obj:=cO [s 2128759062150016623209 532,s 153393256304966102397104309401490450772 533,s z2 534,i 156,i 3,i 0,i 0,i 3,.ref 270,(.bool true),i 181,.ref 271,.none,.ref 272,.ref 273,.ref 274,i 539,i 156,s z2 540]
noncomputable def LW (_:Params):Obj:=fO "hand_over" "Sheets.hand_over" (rE (UE 10) 20) (s dH 341) (.ref 275)
noncomputable def MW (_:Params):Obj:=tO [s HG 545,s WK 546]
noncomputable def NW (_:Params):Obj:=cO [s 578295153549658678911598 542,s 41670557408582505496529931128187121985876 543,s z2 544,i 161,i 2,i 0,i 0,i 3,.ref 277,(.bool true),i 181,.ref 278,.none,.ref 279,.ref 280,.ref 281,i 547,i 161,s z2 548]
noncomputable def OW (_:Params):Obj:=fO "make_empty" "Sheets.make_empty" (rE (UE 10) 21) (s dH 341) (.ref 282)
noncomputable def QW (_:Params):Obj:=tO [s HG 553,s nM 554,s 1970302324 555]
noncomputable def RW (_:Params):Obj:=cO [s 2055260603203882086509 550,s 148097134187812227235189991446143199572 551,s z2 552,i 168,i 2,i 0,i 0,i 3,.ref 284,(.bool true),i 181,.ref 285,.none,.ref 286,.ref 287,.ref 288,i 556,i 168,s z2 557]
noncomputable def SW (_:Params):Obj:=fO "lose_twin" "Sheets.lose_twin" (rE (UE 10) 22) (s dH 341) (.ref 289)
noncomputable def TW (_:Params):Obj:=tO [s HG 562,s jV 563,s 500035707502 564,s nM 565,s 112581468514660 566]
noncomputable def UW (_:Params):Obj:=cO [s 2129475116924502438759 559,s 153444853489214921332424288546578655572 560,s z2 561,i 174,i 3,i 0,i 0,i 3,.ref 291,(.bool true),i 181,.ref 292,.none,.ref 293,.ref 294,.ref 295,i 567,i 174,s z2 568]
noncomputable def VW (_:Params):Obj:=fO "frame_for" "Sheets.frame_for" (rE (UE 10) 23) (s dH 341) (.ref 296)
noncomputable def WW (_:Params):Obj:=tO [s HG 573,s nM 574,s jV 575,s UK 576,s 1970302324 577]
noncomputable def YW (_:Params):Obj:=cO [s 33062797301872241 570,s 2382425625736609055251908520208724 571,s z2 572,i 182,i 3,i 0,i 0,i 3,.ref 298,(.bool true),i 181,.ref 299,.none,.ref 300,.ref 301,.ref 302,i 578,i 182,s z2 579]
noncomputable def ZW (_:Params):Obj:=fO "put_out" "Sheets.put_out" (rE (UE 10) 24) (s dH 341) (.ref 303)
noncomputable def aX (_:Params):Obj:=tO [s HG 584,s nM 585,s jV 586,s 525956378214 587,s 1869248629 588]
noncomputable def bX (_:Params):Obj:=cO [s 8318262175738129780 581,s 599393958960389321452523230538918228 582,s z2 583,i 194,i 3,i 0,i 0,i 3,.ref 305,(.bool true),i 181,.ref 306,.none,.ref 307,.ref 308,.ref 309,i 589,i 194,s z2 590]
noncomputable def cX (_:Params):Obj:=fO "slot_for" "Sheets.slot_for" (rE (UE 10) 25) (s dH 341) (.ref 310)
noncomputable def dX (_:Params):Obj:=⟨(.type "tuple"),none,.seq #[(.str (Str.ofString "come_back") 592),(.str (Str.ofString "frames") 593),(.str (Str.ofString "gone_astray") 594),(.str (Str.ofString "gone_out") 595),(.str (Str.ofString "hand") 596),(.str (Str.ofString "size") 597),(.str (Str.ofString "slots") 598)] 0, #[]⟩
noncomputable def eX (P:Params):Obj:=dO 4 [e P z7 350 (s dH 341),e P z8 354 (.int (50) 353),e P MO 364 (.ref 140),e P 452924437351 375 (.ref 147),e P 1818518115 386 (.ref 154),e P 1701671017 396 (.ref 161),e P 123593597216365 405 (.ref 168),e P 488476733378837491839081 414 (.ref 175),e P 36344496227587819637979312233 422 (.ref 182),e P 8458429107500640628 431 (.ref 189),e P 113732352569443 440 (.ref 196),e P 34182044304369268 450 (.ref 203),e P 1701671015 462 (.ref 210),e P 140789800901245672938236525 469 (.ref 217),e P 30801127769404522 476 (.ref 224),e P 33040738433327721 483 (.ref 231),e P 140719112692525297883246709 493 (.ref 238),e P 549960882328764939071605 499 (.ref 243),e P 435510800494 506 (.ref 250),e P 8458429051817327213 515 (.ref 257),e P 2148284700994785078626 521 (.ref 262),e P 2166370315886094282869 531 (.ref 269),e P 2128759062150016623209 541 (.ref 276),e P 578295153549658678911598 549 (.ref 283),e P 2055260603203882086509 558 (.ref 290),e P 2129475116924502438759 569 (.ref 297),e P 33062797301872241 580 (.ref 304),e P 8318262175738129780 591 (.ref 311),e P z9 599 (.ref 312),e P NO 601 (.ref 315),e P mM 603 (.ref 316),e P z1 604 .none]
noncomputable def fX (_:Params):Obj:=⟨(.type "type"),none,.cls {name:=(Str.ofString "Sheets"),bases:=[(.type "object")],mro:=[.ref 314,(.type "object")],ns:=313,qualname:=(Str.ofString "Sheets"),hasDict:=true,slotNames:=[],subclasses:=[],abstract:=false,collection:=none,hasDel:=false}, #[none,none,(some (s 128047577983316 343)),(some (s 128047577983316 351)),(some (.builtin "object.__new__")),(some (.bool true))]⟩
noncomputable def gX (_:Params):Obj:=⟨(.type "getset_descriptor"),none,.fields ⟨[s NO 600,.ref 314,(.builtin "function.__dict__"),(.builtin "function.__dict__#set")]⟩, #[]⟩
noncomputable def iX (_:Params):Obj:=⟨(.type "getset_descriptor"),none,.fields ⟨[s mM 602,.ref 314,(.builtin "ExceptionGroup.__weakref__"),.none]⟩, #[]⟩
noncomputable def jX (_:Params):Obj:=tO [s 141979911977246466280418656 612,s 119161592376672 613]
noncomputable def kX (_:Params):Obj:=cO [s 2018578202597599112544 609,s 2018578202597599112544 610,s z2 611,i 203,i 2,i 0,i 0,i 3,.ref 319,(.bool true),i 181,.ref 320,.none,.ref 321,.ref 322,.ref 323,i 614,i 203,s z2 615]
noncomputable def lX (_:Params):Obj:=fO "_law_cell" "_law_cell" (UE 12) (s z0 607) (.ref 324)
noncomputable def mX (_:Params):Obj:=tO [s 479015137796973828140384 620,s 7383200104131489120 621,s 119161592376672 622]
noncomputable def nX (_:Params):Obj:=cO [s 1889380072283105815904 617,s 1889380072283105815904 618,s z2 619,i 207,i 2,i 0,i 0,i 3,.ref 326,(.bool true),i 181,.ref 327,.none,.ref 328,.ref 329,.ref 330,i 623,i 207,s z2 624]
noncomputable def oX (_:Params):Obj:=fO "_law_like" "_law_like" (UE 13) (s z0 607) (.ref 331)
noncomputable def pX (_:Params):Obj:=tO [s PQ 629,s lV 630,s 2166370315886412328288 631,s 140719112692525298201292128 632,s 549960882328765257117024 633,s 119161592376672 634,s 122585337371032916032908640 635,s 31706981096272829574725922144 636,s 2017788388210995522912 637]
noncomputable def qX (_:Params):Obj:=cO [s 8464076109328313696 626,s 8464076109328313696 627,s z2 628,i 226,i 3,i 0,i 0,i 3,.ref 333,(.bool true),i 181,.ref 334,.none,.ref 335,.ref 336,.ref 337,i 638,i 226,s z2 639]
noncomputable def rX (_:Params):Obj:=fO "_law_out" "_law_out" (UE 14) (s z0 607) (.ref 338)
noncomputable def sX (_:Params):Obj:=tO [s 479015137796973828140384 644,s 8678563340116716896 645,s 7383200104131489120 646,s 7381241873922420064 647]
noncomputable def tX (_:Params):Obj:=cO [s 1871007083449387478368 641,s 1871007083449387478368 642,s z2 643,i 251,i 2,i 0,i 0,i 3,.ref 340,(.bool true),i 181,.ref 341,.none,.ref 342,.ref 343,.ref 344,i 648,i 251,s z2 649]
noncomputable def uX (_:Params):Obj:=fO "_law_told" "_law_told" (UE 15) (s z0 607) (.ref 345)
noncomputable def vX (_:Params):Obj:=tO [s PQ 654,s 2166371441786319170912 655]
noncomputable def wX (_:Params):Obj:=cO [s 33040738751245664 651,s 33040738751245664 652,s z2 653,i 259,i 2,i 0,i 0,i 3,.ref 347,(.bool true),i 181,.ref 348,.none,.ref 349,.ref 350,.ref 351,i 656,i 259,s z2 657]
noncomputable def xX (_:Params):Obj:=fO "_law_at" "_law_at" (UE 16) (s z0 607) (.ref 352)
noncomputable def yX (_:Params):Obj:=tO [s PQ 662,s 2166371441786319170912 663,s 7381241873922420064 664]
noncomputable def AX (_:Params):Obj:=cO [s 1889597928417521724768 659,s 1889597928417521724768 660,s z2 661,i 263,i 2,i 0,i 0,i 3,.ref 354,(.bool true),i 181,.ref 355,.none,.ref 356,.ref 357,.ref 358,i 665,i 263,s z2 666]
noncomputable def BX (_:Params):Obj:=fO "_law_gone" "_law_gone" (UE 17) (s z0 607) (.ref 359)
noncomputable def DX (_:Params):Obj:=cO [s z4 668,s z4 669,s z2 670,i 271,i 1,i 0,i 0,i 3,.ref 361,(.bool true),i 181,.ref 362,.none,.none,.none,.ref 363,i 671,i 271,s z2 672]
noncomputable def EX (_:Params):Obj:=fO "_law_folded" "_law_folded" (UE 18) (s z0 607) (.ref 364)
noncomputable def FX (_:Params):Obj:=tO [s 140789800901245673238850912 677,s PQ 678,s 554405825948688972934496 679,s 139510021644005314150952288 680,s lV 681,s 483533148109722095873376 682]
noncomputable def GX (_:Params):Obj:=cO [s z5 674,s z5 675,s z2 676,i 289,i 5,i 0,i 0,i 3,.ref 366,(.bool true),i 181,.ref 367,.none,.ref 368,.ref 369,.ref 370,i 683,i 289,s z2 684]
noncomputable def HX (_:Params):Obj:=fO "_law_fresh" "_law_fresh" (UE 19) (s z0 607) (.ref 371)
noncomputable def IX (_:Params):Obj:=tO [s 140789800901245673238850912 689,s PQ 690,s 2166370315886412328288 691,s lV 692,s 126254431232362685063654752 693,s 8462378463375027552 694,s 2055260603204182895968 695]
noncomputable def JX (_:Params):Obj:=cO [s 1999481813178129739104 686,s 1999481813178129739104 687,s z2 688,i 294,i 4,i 0,i 0,i 3,.ref 373,(.bool true),i 181,.ref 374,.none,.ref 375,.ref 376,.ref 377,i 696,i 294,s z2 697]
noncomputable def LX (_:Params):Obj:=fO "_law_back" "_law_back" (UE 20) (s z0 607) (.ref 378)
noncomputable def MX (_:Params):Obj:=cO [s 1888873418424538262880 699,s 1888873418424538262880 700,s z2 701,i 304,i 4,i 0,i 0,i 3,.ref 380,(.bool true),i 181,.ref 381,.none,.none,.none,.ref 382,i 702,i 304,s z2 703]
noncomputable def NX (_:Params):Obj:=fO "_law_made" "_law_made" (UE 21) (s z0 607) (.ref 383)
noncomputable def OX (_:Params):Obj:=cO [s z6 705,s z6 706,s z2 707,i 322,i 2,i 0,i 0,i 3,.ref 385,(.bool true),i 181,.ref 386,.none,.none,.none,.ref 387,i 708,i 322,s z2 709]
noncomputable def PX (_:Params):Obj:=fO "_law_right" "_law_right" (UE 22) (s z0 607) (.ref 388)
noncomputable def QX (_:Params):Obj:=cO [s 7889517 711,s 7889517 712,s z2 713,i 332,i 1,i 0,i 0,i 3,.ref 390,(.bool true),i 181,.ref 391,.none,.none,.none,.ref 392,i 714,i 332,s z2 715]
noncomputable def RX (_:Params):Obj:=fO "law" "law" (UE 23) (s z0 607) (.ref 393)
noncomputable def Kf:Params->PySem.W.Frag:=λP=>(nat_lit 2,o2 P)::(nat_lit 3,o3 P)::(nat_lit 15,XE P)::(nat_lit 17,yb P)::(nat_lit 18,XE P)::(nat_lit 20,zb P)::(nat_lit 21,Hb P)::(nat_lit 22,Ib P)::(nat_lit 29,M3 P)::(nat_lit 30,Jb P)::(nat_lit 31,Kb P)::(nat_lit 32,Mb P)::(nat_lit 35,Nb P)::(nat_lit 42,M3 P)::(nat_lit 43,Ob P)::(nat_lit 44,Pb P)::(nat_lit 47,XE P)::(nat_lit 49,Qb P)::(nat_lit 50,XE P)::(nat_lit 52,Rb P)::(nat_lit 53,Tb P)::(nat_lit 61,XE P)::(nat_lit 63,Ub P)::(nat_lit 64,XE P)::(nat_lit 66,Vb P)::(nat_lit 67,Wb P)::(nat_lit 68,XE P)::(nat_lit 70,Xb P)::(nat_lit 71,XE P)::(nat_lit 73,Yb P)::(nat_lit 74,Zb P)::(nat_lit 75,XE P)::(nat_lit 78,cc P)::(nat_lit 79,dc P)::(nat_lit 80,fc P)::(nat_lit 81,gc P)::(nat_lit 82,ic P)::(nat_lit 83,jc P)::(nat_lit 84,lc P)::(nat_lit 94,XE P)::(nat_lit 96,pc P)::(nat_lit 97,XE P)::(nat_lit 99,qc P)::(nat_lit 100,mV P)::(nat_lit 101,XE P)::(nat_lit 103,nV P)::(nat_lit 104,XE P)::(nat_lit 106,pV P)::(nat_lit 107,qV P)::(nat_lit 108,XE P)::(nat_lit 110,rV P)::(nat_lit 111,XE P)::(nat_lit 113,sV P)::(nat_lit 114,tV P)::(nat_lit 115,XE P)::(nat_lit 118,uV P)::(nat_lit 119,vV P)::(nat_lit 120,wV P)::(nat_lit 121,xV P)::(nat_lit 122,yV P)::(nat_lit 123,zV P)::(nat_lit 124,AV P)::(nat_lit 134,XE P)::(nat_lit 136,BV P)::(nat_lit 137,XE P)::(nat_lit 139,CV P)::(nat_lit 140,DV P)::(nat_lit 141,XE P)::(nat_lit 143,EV P)::(nat_lit 144,XE P)::(nat_lit 146,FV P)::(nat_lit 147,GV P)::(nat_lit 148,XE P)::(nat_lit 150,HV P)::(nat_lit 151,XE P)::(nat_lit 153,IV P)::(nat_lit 154,JV P)::(nat_lit 155,XE P)::(nat_lit 157,LV P)::(nat_lit 158,XE P)::(nat_lit 160,MV P)::(nat_lit 161,NV P)::(nat_lit 162,XE P)::(nat_lit 164,OV P)::(nat_lit 165,XE P)::(nat_lit 167,PV P)::(nat_lit 168,QV P)::(nat_lit 169,XE P)::(nat_lit 171,RV P)::(nat_lit 172,XE P)::(nat_lit 174,SV P)::(nat_lit 175,TV P)::(nat_lit 176,XE P)::(nat_lit 178,UV P)::(nat_lit 179,XE P)::(nat_lit 181,VV P)::(nat_lit 182,WV P)::(nat_lit 183,XE P)::(nat_lit 185,XV P)::(nat_lit 186,XE P)::(nat_lit 188,YV P)::(nat_lit 189,ZV P)::(nat_lit 190,XE P)::(nat_lit 192,aW P)::(nat_lit 193,XE P)::(nat_lit 195,bW P)::(nat_lit 196,cW P)::(nat_lit 197,XE P)::(nat_lit 199,dW P)::(nat_lit 200,XE P)::(nat_lit 202,eW P)::(nat_lit 203,fW P)::(nat_lit 204,XE P)::(nat_lit 206,gW P)::(nat_lit 207,XE P)::(nat_lit 209,hW P)::(nat_lit 210,iW P)::(nat_lit 211,XE P)::(nat_lit 213,jW P)::(nat_lit 214,XE P)::(nat_lit 216,kW P)::(nat_lit 217,lW P)::(nat_lit 218,XE P)::(nat_lit 220,mW P)::(nat_lit 221,XE P)::(nat_lit 223,nW P)::(nat_lit 224,pW P)::(nat_lit 225,XE P)::(nat_lit 227,qW P)::(nat_lit 228,XE P)::(nat_lit 230,rW P)::(nat_lit 231,sW P)::(nat_lit 232,XE P)::(nat_lit 234,tW P)::(nat_lit 235,XE P)::(nat_lit 237,uW P)::(nat_lit 238,vW P)::(nat_lit 239,XE P)::(nat_lit 242,wW P)::(nat_lit 243,xW P)::(nat_lit 244,XE P)::(nat_lit 246,yW P)::(nat_lit 247,XE P)::(nat_lit 249,zW P)::(nat_lit 250,AW P)::(nat_lit 251,XE P)::(nat_lit 253,BW P)::(nat_lit 254,XE P)::(nat_lit 256,CW P)::(nat_lit 257,DW P)::(nat_lit 258,XE P)::(nat_lit 261,EW P)::(nat_lit 262,FW P)::(nat_lit 263,XE P)::(nat_lit 265,GW P)::(nat_lit 266,XE P)::(nat_lit 268,HW P)::(nat_lit 269,IW P)::(nat_lit 270,XE P)::(nat_lit 272,JW P)::(nat_lit 273,XE P)::(nat_lit 275,KW P)::(nat_lit 276,LW P)::(nat_lit 277,XE P)::(nat_lit 279,MW P)::(nat_lit 280,XE P)::(nat_lit 282,NW P)::(nat_lit 283,OW P)::(nat_lit 284,XE P)::(nat_lit 286,QW P)::(nat_lit 287,XE P)::(nat_lit 289,RW P)::(nat_lit 290,SW P)::(nat_lit 291,XE P)::(nat_lit 293,TW P)::(nat_lit 294,XE P)::(nat_lit 296,UW P)::(nat_lit 297,VW P)::(nat_lit 298,XE P)::(nat_lit 300,WW P)::(nat_lit 301,XE P)::(nat_lit 303,YW P)::(nat_lit 304,ZW P)::(nat_lit 305,XE P)::(nat_lit 307,aX P)::(nat_lit 308,XE P)::(nat_lit 310,bX P)::(nat_lit 311,cX P)::(nat_lit 312,dX P)::(nat_lit 313,eX P)::(nat_lit 314,fX P)::(nat_lit 315,gX P)::(nat_lit 316,iX P)::(nat_lit 319,XE P)::(nat_lit 321,jX P)::(nat_lit 322,XE P)::(nat_lit 324,kX P)::(nat_lit 325,lX P)::(nat_lit 326,XE P)::(nat_lit 328,mX P)::(nat_lit 329,XE P)::(nat_lit 331,nX P)::(nat_lit 332,oX P)::(nat_lit 333,XE P)::(nat_lit 335,pX P)::(nat_lit 336,XE P)::(nat_lit 338,qX P)::(nat_lit 339,rX P)::(nat_lit 340,XE P)::(nat_lit 342,sX P)::(nat_lit 343,XE P)::(nat_lit 345,tX P)::(nat_lit 346,uX P)::(nat_lit 347,XE P)::(nat_lit 349,vX P)::(nat_lit 350,XE P)::(nat_lit 352,wX P)::(nat_lit 353,xX P)::(nat_lit 354,XE P)::(nat_lit 356,yX P)::(nat_lit 357,XE P)::(nat_lit 359,AX P)::(nat_lit 360,BX P)::(nat_lit 361,XE P)::(nat_lit 364,DX P)::(nat_lit 365,EX P)::(nat_lit 366,XE P)::(nat_lit 368,FX P)::(nat_lit 369,XE P)::(nat_lit 371,GX P)::(nat_lit 372,HX P)::(nat_lit 373,XE P)::(nat_lit 375,IX P)::(nat_lit 376,XE P)::(nat_lit 378,JX P)::(nat_lit 379,LX P)::(nat_lit 380,XE P)::(nat_lit 383,MX P)::(nat_lit 384,NX P)::(nat_lit 385,XE P)::(nat_lit 388,OX P)::(nat_lit 389,PX P)::(nat_lit 390,XE P)::(nat_lit 393,QX P)::(nat_lit 394,RX P)::[]
noncomputable def Kc (P:Params):List (Option Obj):=(Kf P).map λp=>some p.2
noncomputable def yK:List Addr:=2::3::15::17::18::20::21::22::29::30::31::32::35::42::43::44::47::49::50::52::53::61::63::64::66::67::68::70::71::73::74::75::78::79::80::81::82::83::84::94::96::97::99::100::101::103::104::106::107::108::110::111::113::114::115::118::119::120::121::122::123::124::134::136::137::139::140::141::143::144::146::147::148::150::151::153::154::155::157::158::160::161::162::164::165::167::168::169::171::172::174::175::176::178::179::181::182::183::185::186::188::189::190::192::193::195::196::197::199::200::202::203::204::206::207::209::210::211::213::214::216::217::218::220::221::223::224::225::227::228::230::231::232::234::235::237::238::239::242::243::244::246::247::249::250::251::253::254::256::257::258::261::262::263::265::266::268::269::270::272::273::275::276::277::279::280::282::283::284::286::287::289::290::291::293::294::296::297::298::300::301::303::304::305::307::308::310::311::312::313::314::315::316::319::321::322::324::325::326::328::329::331::332::333::335::336::338::339::340::342::343::345::346::347::349::350::352::353::354::356::357::359::360::361::364::365::366::368::369::371::372::373::375::376::378::379::380::383::384::385::388::389::390::393::394::[]
noncomputable def _root_.PySem.W.Fast.tw2978598463251682248:Params->PySem.W.Frag:=Kf
theorem _root_.PySem.W.Fast.te2978598463251682248:@Eq (Params->PySem.W.Frag) Kf _root_.PySem.W.Fast.tw2978598463251682248:=rfl
noncomputable def _root_.PySem.W.Fast.tw178197174607172993:List Addr:=yK
theorem _root_.PySem.W.Fast.te178197174607172993:@Eq (List Addr) yK _root_.PySem.W.Fast.tw178197174607172993:=rfl
theorem QQ (P:Params):yK=(Kf P).map (·.1):=by kernel_rfl
theorem RQ (P:Params):Kc P=(Kf P).map λp=>some p.2:=rfl
noncomputable def vw:Program:=PySem.W.view PySem.Challenge.pw_frameland_k66_folded_sheets [0,2,3,5,7,8,10,12,13,14,15,16,17,18,19,20,21,22,23]
noncomputable def lhs:=RM PySem.Challenge.pw_frameland_k66_folded_sheets (λs=>yK.map s.heap.get?) 5168
noncomputable def rhs (w:World):=some (true,Kc w.params)
noncomputable def lht:=SM PySem.Challenge.pw_frameland_k66_folded_sheets vw [] (λs=>PySem.W.xlAt vw [] s&&PySem.W.recOk (PySem.W.RowW.records (PySem.Challenge.rw_frameland_k66_folded_sheets).row.toRowW) s) 5168
noncomputable def rht:=some (PySem.W.openGood vw [])
theorem twins:(λ(_:World->OsState->_) (_:World->_) (_:World->OsState->_) (_:Option _)=>true) lhs rhs lht rht=true:=by k_qdec
theorem rc:∀(w:World) (os:OsState),PySem.W.Fast.tw7128866508377749982 w os=PySem.W.Fast.tw12590348191598281069 w:=by intro w os;kernel_rfl
theorem uc:∀(w:World) (os:OsState),PySem.W.Fast.tw7374437481920917934 w os=PySem.W.Fast.tw10733892774512676622:=by intro w os;kernel_rfl
theorem left:PySem.W.LeftO PySem.Challenge.pw_frameland_k66_folded_sheets vw [] (λs=>PySem.W.xlAt vw [] s&&PySem.W.recOk (PySem.W.RowW.records (PySem.Challenge.rw_frameland_k66_folded_sheets).row.toRowW) s) (λs=>yK.map s.heap.get?) (λw=>(Kf w.params).map λp=>some p.2) (5168):=by
 refine Q7 (by kernel_rfl) (by kernel_rfl) (by intro s;kernel_rfl) (λw os=>?_) λw os=>?_
 ·rw[<-RQ];exact (oE (oE PySem.W.Fast.te7128866508377749982 w) os).trans ((rc w os).trans (oE PySem.W.Fast.te12590348191598281069 w).symm)
 ·exact (oE (oE PySem.W.Fast.te7374437481920917934 w) os).trans ((uc w os).trans PySem.W.Fast.te10733892774512676622.symm)
end
end Pf
open PySem PySem.W PyProof.Rows
set_option maxRecDepth 100000 in
set_option maxHeartbeats 0 in
theorem PySem.Challenge.cw_frameland_k66_folded_sheets_holds : PySem.Challenge.rw_frameland_k66_folded_sheets.Holds := by
 w_on;o_law
 refine holds_open (q:=Pf.vw) (loose:=[]) (Xt:=λs=>xlAt Pf.vw [] s&&recOk (RowW.records (PySem.Challenge.rw_frameland_k66_folded_sheets).row.toRowW) s) (XP:=XL Pf.vw []) (Yf:=Hook.obs (kHook Pf.Kf Pf.yK Pf.QQ)) (Ya:=Hook.val (kHook Pf.Kf Pf.yK Pf.QQ)) (YP:=Hook.says (kHook Pf.Kf Pf.yK Pf.QQ)) (N:=(5168)) Pf.left (Hook.of (kHook Pf.Kf Pf.yK Pf.QQ)) (Hook.keeps (kHook Pf.Kf Pf.yK Pf.QQ)) (λs e=>xl_of s (Bool.and_eq_true_iff.mp e).1) XL.keeps (by rfl) (by rfl) (by rfl) (λs e=>recFacts_of (Bool.and_eq_true_iff.mp e).2) (by rfl) (by first|assumption|decide+kernel) (by decide+kernel) ⟨rfl,rfl,rfl,rfl,rfl,by decide+kernel⟩ ?hw ?hc
 case hw=>w_witness2
 k_fill
 refine Pf.iV (l:=PySem.Challenge.rw_frameland_k66_folded_sheets) rfl rfl rfl (λw h Y=>PySem.W.kIn_of Y) ?F
 case F=>
  intro w mg h KX G
  refine' Pf.rN KX G ?_ ?_ ?_ ?_ ?_ ?_ ?_ ?_ ?_ ?_ ?_ ?_ ?_ ?_ ?_ ?_ ?_ (.mk ?_ ?_ ?_ ?_) (.mk ?_ ?_ ?_ ?_) (.mk ?_ ?_ ?_ ?_) (.mk ?_ ?_ ?_ ?_) (.mk ?_ ?_ ?_ ?_) (.mk ?_ ?_ ?_ ?_) (.mk ?_ ?_ ?_ ?_) (.mk ?_ ?_ ?_ ?_) (.mk ?_ ?_ ?_ ?_) (.mk ?_ ?_ ?_ ?_) (.mk ?_ ?_ ?_ ?_) (.mk ?_ ?_ ?_ ?_) ⟨?_,?_,?_,?_⟩ ?_ ?_ (.mk ?_ ?_ ?_ ?_ ?_ ?_ ?_) (.mk ?_ ?_ ?_ ?_ ?_) (.mk ?_ ?_ ?_ ?_ ?_) ⟨?_,?_,?_,?_⟩ ?_ ?_ (.mk ?_ ?_ ?_ ?_ ?_ ?_ ?_) (.mk ?_ ?_ ?_ ?_ ?_) (.mk ?_ ?_ ?_ ?_ ?_) (.mk ?_ ?_ ?_ ?_ ?_) ⟨?_,?_,?_,?_⟩ ?_ ?_ ?_ ?_ ?_ ?_ ?_ (.mk ?_ ?_ ?_ ?_ ?_ ?_ ?_) (.mk ?_ ?_ ?_ ?_ ?_) (.mk ?_ ?_ ?_ ?_ ?_) (.mk ?_ ?_ ?_ ?_ ?_) (.mk ?_ ?_ ?_ ?_ ?_) (.mk ?_ ?_ ?_ ?_ ?_) (.mk ?_ ?_ ?_ ?_ ?_) (.mk ?_ ?_ ?_ ?_ ?_) (.mk ?_ ?_ ?_ ?_ ?_) (.mk ?_ ?_ ?_ ?_ ?_) (.mk ?_ ?_ ?_ ?_ ?_) (.mk ?_ ?_ ?_ ?_ ?_) (.mk ?_ ?_ ?_ ?_ ?_) (.mk ?_ ?_ ?_ ?_ ?_) (.mk ?_ ?_ ?_ ?_ ?_) (.mk ?_ ?_ ?_ ?_ ?_) (.mk ?_ ?_ ?_ ?_ ?_) (.mk ?_ ?_ ?_ ?_ ?_) (.mk ?_ ?_ ?_ ?_ ?_) (.mk ?_ ?_ ?_ ?_ ?_) (.mk ?_ ?_ ?_ ?_ ?_) (.mk ?_ ?_ ?_ ?_ ?_) ?g0 (.mk ?_ ?_ ?_ ?_)
  all_goals first|k_is|skip
  (case g0=>k_exc)
