import PyProof.Rows.All
import Wide.All
import OpenK.AllK
import Wide.FinOn
import Lean
import PyProof.EqAt
import PyProof.EqKinds
import PyProof.TupleCall
import PyProof.NeKinds
import PyProof.EnumMake
import PyProof.EnumStmt
import PyProof.LayNew
import KE.KDictLaws
import KE.KDictSum
import KE.LcSums
import PyProof.Rows.SumAny
import PyProof.Rows.SortWalk
import PyProof.DictWalks
import PyProof.Rows.SortRev
import KE.KRevIter
import KE.KIntText
import PyProof.CallStr
import PyProof.StrCalls2
import PyProof.Rows.StrJoin2
import PyProof.StrWalks
import PyProof.Rows.Range3
import PyProof.Rows.MatchSeqLen
import PyProof.Rows.SetFrom
import PyProof.SetRoads
import PyProof.TupleKey
import PyProof.IsRules
import PyProof.Rows.SortShell
import PyProof.Rows.SortRuns
import PySem.Challenge.RW_frameland_k47_house_any_row
set_option Elab.async false
set_option linter.all false
set_option genSizeOf false
set_option bootstrap.genMatcherCode false
set_option maxRecDepth 100000
set_option tactic.hygienic false
local macro_rules | `(tactic| omega) => `(tactic| first | with_reducible assumption | decide | lia | omega (config := {}))
noncomputable def aA:=@if_neg
noncomputable def bA:=@if_pos
noncomputable def cA:=@List.mem_cons_self
noncomputable def dA:=@List.length_map
noncomputable def fA:=@List.mem_cons_of_mem
noncomputable def gA:=@List.mem_singleton
noncomputable def iA:=@Nat.le_refl
noncomputable def jA:=@PySem.wpAny_bind
noncomputable def kA:=@decide_eq_true
noncomputable def nA:=@Bool.false_ne_true
noncomputable def pA:=@PyProof.Rows.wpS_bind
noncomputable def qA:=@List.length_append
noncomputable def rA:=@List.mem_append
noncomputable def sA:=@PyProof.Rows.boot_isinstance
noncomputable def vA:=@List.append_assoc
noncomputable def wA:=@List.mem_cons
noncomputable def xA:=@List.mem_map
noncomputable def yA:=@decide_eq_false
noncomputable def zA:=@List.getElem?_eq_getElem
noncomputable def AA:=@PyProof.Rows.wpS_pure
noncomputable def BA:=@List.mem_append_right
noncomputable def CA:=@PySem.Heap.get?_push_of_some
noncomputable def DA:=@List.pairwise_append
noncomputable def EA:=@Array.length_toList
noncomputable def FA:=@Option.some.inj
noncomputable def GA:=@PySem.Heap.lt_size
noncomputable def HA:=@Option.map_eq_some_iff
noncomputable def IA:=@Bool.false_eq_true
noncomputable def JA:=@Nat.lt_of_lt_of_le
noncomputable def KA:=@List.map_append
noncomputable def LA:=@List.getElem?_eq_some_iff
noncomputable def MA:=@Array.getElem?_toList
noncomputable def NA:=@List.length_take
noncomputable def OA:=@PySem.wpAny_pure
noncomputable def QA:=@List.map_cons
noncomputable def RA:=@List.mem_append_left
noncomputable def SA:=@List.getElem?_append_right
noncomputable def UA:=@List.getElem?_map
noncomputable def VA:=@List.size_toArray
noncomputable def WA:=@PySem.PassesOwn.leaving
noncomputable def XA:=@PySem.Heap.get?_push_size
noncomputable def YA:=@Nat.le_trans
noncomputable def ZA:=@Bool.and_eq_true
noncomputable def aB:=@Int.le_refl
noncomputable def cB:=@Nat.ne_of_lt
noncomputable def dB:=@List.filter_cons
noncomputable def fB:=@List.mem_of_getElem?
noncomputable def gB:=@PyProof.Rows.boot_sorted
noncomputable def iB:=@List.length_singleton
noncomputable def jB:=@List.length_cons
noncomputable def kB:=@decide_eq_true_eq
noncomputable def mB:=@Int.le_trans
noncomputable def pB:=@Array.toList_append
noncomputable def qB:=@List.nodup_cons
noncomputable def rB:=@PySem.wpAny_mono
noncomputable def sB:=@PyProof.Rows.wpS_forRange
noncomputable def vB:=@List.take_length
noncomputable def wB:=@if_false
noncomputable def xB:=@List.take_add_one
noncomputable def yB:=@Bool.eq_iff_iff
noncomputable def zB:=@List.mem_filter
noncomputable def AB:=@List.not_mem_nil
noncomputable def BB:=@List.length_filter_le
noncomputable def CB:=@List.length_range
noncomputable def DB:=@PyProof.Rows.wpS_mono
noncomputable def EB:=@List.getLast?_concat
noncomputable def FB:=@Int.le_of_lt
noncomputable def GB:=@List.length_drop
noncomputable def HB:=@List.map_map
noncomputable def IB:=@List.append_nil
noncomputable def JB:=@Bool.eq_false_iff
noncomputable def KB:=@List.map_nil
noncomputable def LB:=@List.nodup_append
noncomputable def MB:=@List.take_of_length_le
noncomputable def NB:=@Nat.zero_add
noncomputable def OB:=@of_decide_eq_true
noncomputable def PB:=@if_true
noncomputable def QB:=@List.take_append_drop
noncomputable def RB:=@beq_iff_eq
noncomputable def SB:=@of_decide_eq_false
noncomputable def UB:=@Sum.inl.inj
noncomputable def VB:=@congrFun
noncomputable def WB:=@PySem.wpAny_truthy_bool
noncomputable def XB:=@List.nil_append
noncomputable def YB:=@beq_eq_false_iff_ne
noncomputable def ZB:=@Array.getD_eq_getD_getElem?
noncomputable def aC:=@PySem.Heap.get?_update_other
noncomputable def bC:=@Nat.zero_le
noncomputable def cC:=@List.lookup_cons
noncomputable def dC:=@Bool.false_and
noncomputable def eC:=@List.mem_filterMap
noncomputable def fC:=@List.take_zero
noncomputable def gC:=@PySem.wpAny_Call_Name_kw
noncomputable def iC:=@Array.toList_push
noncomputable def jC:=@List.take_sublist
noncomputable def kC:=@Nat.sub_self
noncomputable def lC:=@Nat.lt_irrefl
local macro_rules|`(⋯)=>`(by omega)
local macro_rules|`(∅)=>`(by decide+kernel)
local macro_rules|`(tactic|rfl')=>`(tactic|walk_at "wp")
namespace L2
open PySem PySem.Spec PyProof.Rows
noncomputable abbrev Key:=Sum Int Str
noncomputable def YF:Key->Value->Bool
 |.inl k,v=>Value.isInt k v
 |.inr x,v=>Value.isStrOf x v
noncomputable def wT (w:World):Key->Int
 |.inl k=>hashInt k
 |.inr x=>hashStr w x
theorem FI:∀{k:Key} {v:Value},YF k v=true->(∃i t,k=Sum.inl i/\v=Value.int i t)\/(∃x t,k=Sum.inr x/\v=Value.str x t)
 |.inl i,v,h=>by
  obtain⟨t,e⟩:=Value.isInt_shape (k:=i) (v:=v) h;exact .inl ⟨i,t,rfl,e⟩
 |.inr x,v,h=>by
  obtain⟨t,e⟩:=Value.isStrOf_shape (x:=x) (v:=v) h;exact .inr ⟨x,t,rfl,e⟩
theorem sf (i:Int) (t:Tok):YF (.inl i) (.int i t)=true:=by simp[YF,Value.isInt]
theorem uf (x:Str) (t:Tok):YF (.inr x) (.str x t)=true:=by simp[YF,Value.isStrOf]
theorem uK (a b:Int):decide ((Sum.inl a:Key)=Sum.inl b)=(a == b):=by
 by_cases e:a=b
 ·subst e;simp
 ·have h:¬(Sum.inl a:Key)=Sum.inl b:=λq=>e (UB q);rw[yA h];exact (YB.mpr e).symm
theorem vK (a b:Str):decide ((Sum.inr a:Key)=Sum.inr b)=decide (a=b):=by
 by_cases e:a=b
 ·subst e;simp
 ·have h:¬(Sum.inr a:Key)=Sum.inr b:=λq=>e (Sum.inr.inj q);rw[yA h,yA e]
theorem wK (a:Int) (b:Str):decide ((Sum.inl a:Key)=Sum.inr b)=false:=yA (λq=>nomatch q)
theorem xK (a:Str) (b:Int):decide ((Sum.inr a:Key)=Sum.inl b)=false:=yA (λq=>nomatch q)
noncomputable def kD (prog:Program) (w:World):PySem.KeyKind prog w Key where
 is:=YF
 hash:=wT w
 inj:=λv a b ha hb=>by
  rcases FI ha with ⟨i,t,rfl,rfl⟩|⟨x,t,rfl,rfl⟩
  ·rcases FI hb with ⟨j,u,rfl,e⟩|⟨y,u,rfl,e⟩
   ·injection e with e1 _;rw[e1]
   ·exact nomatch e
  ·rcases FI hb with ⟨j,u,rfl,e⟩|⟨y,u,rfl,e⟩
   ·exact nomatch e
   ·injection e with e1 _;rw[e1]
 byValue:=λk v h=>by
  rcases FI h with ⟨i,t,rfl,rfl⟩|⟨x,t,rfl,rfl⟩<;>rfl
 pyHash:=λhv h=>by
  rcases FI hv with ⟨i,t,rfl,rfl⟩|⟨x,t,rfl,rfl⟩
  ·exact wpAny_pyHash_int h
  ·exact wpAny_pyHash_str h
 eqBool:=λhu hv h=>by
  rcases FI hu with ⟨i,t,rfl,rfl⟩|⟨x,t,rfl,rfl⟩
  ·rcases FI hv with ⟨j,u,rfl,rfl⟩|⟨y,u,rfl,rfl⟩
   ·rw[uK] at h;exact wpAny_eqBool_int h
   ·rw[wK] at h;exact SeqAt.EqAt.int_str i t y u _ _ _ _ h
  ·rcases FI hv with ⟨j,u,rfl,rfl⟩|⟨y,u,rfl,rfl⟩
   ·rw[xK] at h;exact SeqAt.EqAt.str_int x t j u _ _ _ _ h
   ·rw[vK] at h;exact wpAny_eqBool_str h
 «strs» :=λk x t v h=>by
  rcases FI h with ⟨i,u,rfl,e⟩|⟨y,u,rfl,e⟩
  ·exact nomatch e
  ·injection e with e1 _;subst e1;cases v<;>rfl
theorem vf (prog:Program) (w:World) (i:Int) (t:Tok):(kD prog w).is (.inl i) (.int i t)=true:=sf i t
theorem wf (prog:Program) (w:World) (x:Str) (t:Tok):(kD prog w).is (.inr x) (.str x t)=true:=uf x t
end L2
namespace L2
open PySem PySem.Spec PyProof.Rows
inductive V where
 |non|bl (b:Bool)|int (i:Int)|str (x:Str)|byt (b:Array UInt8)|flt (b:UInt64)|ref (a:Addr)|ty (n:String)
 deriving DecidableEq
noncomputable def FC:V->Value->Prop
 |.non,u=>u=Value.none
 |.bl b,u=>u=Value.bool b
 |.int i,u=>∃t,u=Value.int i t
 |.str x,u=>∃t,u=Value.str x t
 |.byt b,u=>∃t,u=Value.bytes b t
 |.flt b,u=>∃t,u=Value.float b t
 |.ref a,u=>u=Value.ref a
 |.ty n,u=>u=Value.type n
noncomputable abbrev GC:List V->List Value->Prop:=Paired FC
theorem GC.length {xs:List V} {us:List Value} (r:GC xs us):xs.length=us.length:=Paired.length r
theorem GC.get:∀{xs:List V} {us:List Value} {i:Nat} {x:V},GC xs us->xs[i]?=some x->∃u,us[i]?=some u/\FC x u
 |_,_,_,_,.nil,e=>by simp at e
 |_,_,0,_,.cons r _,e=>by simp at e;subst e;exact⟨_,rfl,r⟩
 |_,_,i+1,x,.cons _ t,e=>by
  obtain⟨u,h1,h2⟩:=GC.get (i:=i) (x:=x) t (by simpa using e);exact⟨u,by simpa using h1,h2⟩
theorem GC.set {x:V} {u:Value} (r:FC x u):∀{xs:List V} {us:List Value} (i:Nat),GC xs us->GC (xs.set i x) (us.set i u)
 |_,_,_,.nil=>.nil
 |_,_,0,.cons _ t=>.cons r t
 |_,_,i+1,.cons q t=>.cons q (GC.set r i t)
theorem GC.append:∀{xs ys:List V} {us ws:List Value},GC xs us->GC ys ws->GC (xs++ys) (us++ws)
 |_,_,_,_,.nil,s=>s
 |_,_,_,_,.cons r t,s=>.cons r (GC.append t s)
theorem GC.take:∀{xs:List V} {us:List Value} (n:Nat),GC xs us->GC (xs.take n) (us.take n)
 |_,_,0,_=>.nil
 |_,_,_+1,.nil=>.nil
 |_,_,n+1,.cons r t=>.cons r (GC.take n t)
theorem GC.drop:∀{xs:List V} {us:List Value} (n:Nat),GC xs us->GC (xs.drop n) (us.drop n)
 |_,_,0,r=>r
 |_,_,_+1,.nil=>.nil
 |_,_,n+1,.cons _ t=>GC.drop n t
noncomputable def qE:Option V->Option Value->Prop
 |some v,some u=>FC v u
 |none,none=>True
 |_,_=>False
noncomputable def KV {κ:Type}:List (κ×V)->List (κ×Value)->Prop:=Paired λ(p:κ×V) (q:κ×Value)=>p.1=q.1/\FC p.2 q.2
noncomputable def kV:Key->V
 |.inl i=>.int i
 |.inr x=>.str x
inductive HO where
 |lst (xs:List V)
 |tup (xs:List V)
 |dK (kvs:List (Key×V))|dT (kvs:List (List Key×V))
 |set (S:Int->Bool) (n:Nat)
 |ins (C dx:Addr) (fs:List (Str×V))
 |own (x:Addr)
 |xd (fs:List (Str×V))
 |met (f x:Addr)
 |rng (lo hi:Int)
 |frz (o:Obj) (u:HO)
 |tbl (ps:Array Value)
 |ext (φ:Heap->Prop)
noncomputable abbrev Hp:=Addr->Option HO
noncomputable def yC (H:Hp) (a:Addr) (o:HO):Hp:=λb=>if b=a then some o else H b
theorem SC {H:Hp} {a:Addr} {o:HO}:yC H a o a=some o:=by unfold yC;rw[bA rfl]
theorem WC {H:Hp} {a b:Addr} {o:HO} (h:b≠a):yC H a o b=H b:=by unfold yC;rw[aA h]
theorem xf {H:Hp} {a:Addr} {o u:HO}:yC (yC H a o) a u=yC H a u:=by
 funext b;unfold yC;split<;>rfl
theorem OE {H:Hp} {a b:Addr} {o u:HO} (h:H a=some o) (h':H b=some u) (d:o≠u):a≠b:=by
 intro e;subst e;rw[h] at h';exact d (FA h')
theorem AE {H:Hp} {a b:Addr} {o:HO} (h:H a=some o) (h':H b=none):a≠b:=by
 intro e;subst e;rw[h] at h';cases h'
section
variable (P:Program) (w:World)
noncomputable def iD (H:Hp) (h:Heap) (a:Addr):HO->Prop
 |.lst xs=>xs.length<=sizeLine/\∃(its:List Value) (n:Nat),GC xs its/\h.get? a=some {cls:=.type "list",data:=.seq its.toArray n}
 |.tup xs=>xs.length<=sizeLine/\∃its:List Value,GC xs its/\IsTup h a its.toArray
 |.dK kvs=>kvs.length<=sizeLine/\(a == sysModules)=false/\∃vs,KV kvs vs/\h.DictOf (kD P w) a vs
 |.dT kvs=>kvs.length<=sizeLine/\(a == sysModules)=false/\∃xs:List (List Key×Addr×Value),
  Paired (λ(p:List Key×V) (q:List Key×Addr×Value)=>p.1=q.1/\H q.2.1=some (.tup (p.1.map kV))/\FC p.2 q.2.2) kvs xs/\
  ∃o es ep,h.get? a=some o/\o.ExactDict/\o.data=.dict es ep/\es.toList=xs.map (entryOfKey (tupleKind (kD P w)))/\(xs.map (·.1)).Nodup
 |.set S n=>h.SetOf (intKind P w) a S n
 |.ins C dx fs=>H dx=some (.own a)/\fs.length<=1000/\dx≠a/\h.get? a=some (PySem.W.instObj C dx)/\
  ∃mA,h.Ns1 dx mA/\(∀f,qE (fs.lookup f) (mA f))/\PySem.Within mA (fs.map (·.1))
 |.own _=>∃o,h.get? a=some o
 |.xd fs=>∃mA,h.Ns1 a mA/\∀f,qE (fs.lookup f) (mA f)
 |.rng lo hi=>∃t u v,h.get? a=some {cls:=.type "range",data:=.fields #[.int lo t,.int hi u,.int 1 v]}
 |.frz o u=>h.get? a=some o/\iD H h a u
 |.tbl ps=>h.get? a=some {cls:=.none,data:=.fields ps}
 |.met f x=>h.get? a=some (PySem.W.methodObj (.ref f) (.ref x))
 |.ext φ=>φ h/\(∃o,h.get? a=some o)/\∀h1 h2:Heap,φ h1->(∀o,h1.get? a=some o->h2.get? a=some o)->φ h2
noncomputable def wE (H:Hp) (h:Heap):Prop:=∀a o,H a=some o->iD P w H h a o
end
section
variable {P:Program} {w:World} {H H':Hp} {h h':Heap} {a:Addr} {o:HO}
theorem iD.lt (x:iD P w H h a o):a < h.objs.size:=by
 cases o with
 |lst xs=>obtain⟨_,_,_,_,e⟩:=x;exact GA e
 |tup xs=>obtain⟨_,_,_,p⟩:=x;exact p.lt
 |dK kvs=>obtain⟨_,_,_,_,o,_,_,e,_⟩:=x;exact GA e
 |dT kvs=>obtain⟨_,_,_,_,o,_,_,e,_⟩:=x;exact GA e
 |set S n=>obtain⟨o,_,_,_,e,_⟩:=x;exact GA e
 |ins C dx fs=>obtain⟨_,_,_,e,_⟩:=x;exact GA e
 |own y=>obtain⟨_,e⟩:=x;exact GA e
 |xd fs=>obtain⟨_,⟨_,_,_,e,_⟩,_⟩:=x;exact GA e
 |rng lo hi=>obtain⟨_,_,_,e⟩:=x;exact GA e
 |frz ob u=>obtain⟨e,_⟩:=x;exact GA e
 |tbl ps=>exact GA (show h.get? a=some _ from x)
 |met f y=>exact GA (show h.get? a=some _ from x)
 |ext φ=>obtain⟨_,⟨_,e⟩,_⟩:=x;exact GA e
theorem Paired.mapP {α β:Type} {F G:α->β->Prop}:∀{l₁:List α} {l₂:List β},Paired F l₁ l₂->(∀a b,F a b->G a b)->Paired G l₁ l₂
 |_,_,.nil,_=>.nil
 |_,_,.cons r t,f=>.cons (f _ _ r) (Paired.mapP t f)
theorem iD.stay (x:iD P w H h a o) (k:∀b u,(b=a\/H b=some (.own a))->h.get? b=some u->h'.get? b=some u)
  (ho:∀b,H b=some (.own a)->H' b=some (.own a)) (ht:∀b xs,H b=some (.tup xs)->H' b=some (.tup xs)):iD P w H' h' a o:=by
 induction o with
 |lst xs=>obtain⟨z,its,n,r,e⟩:=x;exact⟨z,its,n,r,k _ _ (.inl rfl) e⟩
 |tup xs=>obtain⟨z,its,r,ob,e,c⟩:=x;exact⟨z,its,r,ob,k _ _ (.inl rfl) e,c⟩
 |dK kvs=>obtain⟨z,y,vs,r,ob,es,ep,e,c⟩:=x;exact⟨z,y,vs,r,ob,es,ep,k _ _ (.inl rfl) e,c⟩
 |dT kvs=>
  obtain⟨z,y,xs,r,ob,es,ep,e,c⟩:=x;exact⟨z,y,xs,Paired.mapP r λp q z=>⟨z.1,ht _ _ z.2.1,z.2.2⟩,ob,es,ep,k _ _ (.inl rfl) e,c⟩
 |set S n=>obtain⟨ob,es,ep,t,e,c⟩:=x;exact⟨ob,es,ep,t,k _ _ (.inl rfl) e,c⟩
 |ins C dx fs=>
  obtain⟨d,z,ne,e,mA,⟨od,es,ep,e2,c⟩,r⟩:=x;exact⟨ho _ d,z,ne,k _ _ (.inl rfl) e,mA,⟨od,es,ep,k _ _ (.inr d) e2,c⟩,r⟩
 |own y=>obtain⟨ob,e⟩:=x;exact⟨ob,k _ _ (.inl rfl) e⟩
 |xd fs=>obtain⟨mA,⟨od,es,ep,e,c⟩,r⟩:=x;exact⟨mA,⟨od,es,ep,k _ _ (.inl rfl) e,c⟩,r⟩
 |rng lo hi=>obtain⟨t,u,v,e⟩:=x;exact⟨t,u,v,k _ _ (.inl rfl) e⟩
 |frz ob u ih=>obtain⟨e,q⟩:=x;exact⟨k _ _ (.inl rfl) e,ih q⟩
 |tbl ps=>
  have e:h.get? a=some {cls:=.none,data:=.fields ps}:=x;show h'.get? a=some {cls:=.none,data:=.fields ps};exact k a _ (.inl rfl) e
 |met f y=>
  have e:h.get? a=some (PySem.W.methodObj (.ref f) (.ref y)):=x;show h'.get? a=some (PySem.W.methodObj (.ref f) (.ref y));exact k a _ (.inl rfl) e
 |ext φ=>obtain⟨p,⟨o,e⟩,st⟩:=x;exact⟨st _ _ p λo q=>k _ _ (.inl rfl) q,⟨o,k _ _ (.inl rfl) e⟩,st⟩
theorem wE.lt (x:wE P w H h) (e:H a=some o):a < h.objs.size:=(x a o e).lt
theorem wE.fresh (x:wE P w H h) (e:h.objs.size<=a):H a=none:=by
 cases q:H a with
 |none=>rfl
 |some u=>exact absurd (JA (x.lt q) e) (lC _)
theorem wE.kept (x:wE P w H h) (k:∀b u,h.get? b=some u->h'.get? b=some u):wE P w H h':=λa o e=>
 (x a o e).stay (λb u ο q=>k b u q) (λο q=>q) λο ο q=>q
theorem wE.laid (x:wE P w H h) (k:∀b u,h.get? b=some u->h'.get? b=some u) (hp:h.objs.size<=a) (new:iD P w (yC H a o) h' a o):wE P w (yC H a o) h':=λb u e=>by
 have hn:=x.fresh hp;by_cases hb:b=a
 ·subst hb;rw[SC] at e;cases e;exact new
 ·rw[WC hb] at e;exact (x b u e).stay (λc v ο q=>k c v q) (λc q=>by rw[WC (AE q hn)];exact q) λc xs q=>by rw[WC (AE q hn)];exact q
end
noncomputable def Rd (H:Hp) (a:Addr) (u:HO):Prop:=H a=some u\/∃o,H a=some (.frz o u)
theorem Rd.of {H:Hp} {a:Addr} {u:HO} (h:H a=some u):Rd H a u:=.inl h
theorem Rd.ok {P:Program} {w:World} {H:Hp} {h:Heap} {a:Addr} {u:HO} (r:Rd H a u) (x:wE P w H h):iD P w H h a u:=by
 rcases r with r|⟨o,r⟩
 ·exact x a u r
 ·obtain⟨_,q⟩:=x a _ r;exact q
noncomputable def xN:Option HO->Prop
 |some (.lst _)=>True
 |some (.dK _)=>True
 |some (.dT _)=>True
 |some (.set _ _)=>True
 |some (.ins _ _ _)=>True
 |some (.ext _)=>True
 |_=>False
section
variable {P:Program} {w:World} {H:Hp} {h h':Heap} {x e:Addr} {o':HO}
theorem wE.write (ok:wE P w H h) (mu:xN (H x)) (he:e=x\/H e=some (.own x)) (k:∀b u,b≠e->h.get? b=some u->h'.get? b=some u) (heo:∃u,h'.get? e=some u)
  (new:iD P w (yC H x o') h' x o'):wE P w (yC H x o') h':=λb u q=>by
 have nown:∀c y,H c=some (.own y)->c≠x:=λc y r z=>by subst z;rw[r] at mu;exact mu
 have ntup:∀c xs,H c=some (.tup xs)->c≠x:=λc xs r z=>by subst z;rw[r] at mu;exact mu
 by_cases hb:b=x
 ·subst hb;rw[SC] at q;cases q;exact new
 ·rw[WC hb] at q;by_cases hbe:b=e
  ·have q':H b=some (.own x):=by
    rcases he with z|z
    ·exact absurd (hbe.trans z) hb
    ·rw[hbe];exact z
   rw[q] at q';cases q';obtain⟨v,hv⟩:=heo;exact⟨v,by rw[hbe];exact hv⟩
  ·refine (ok b u q).stay (λc v hc r=>k c v ?_ r) (λc r=>by rw[WC (nown c b r)];exact r) λc xs r=>by rw[WC (ntup c xs r)];exact r
   rcases hc with rfl|hc
   ·exact hbe
   ·rintro rfl;rcases he with z|z
    ·exact nown c b hc z
    ·rw[hc] at z;cases z;exact hb rfl
end
structure Un (fs ex:List Addr) (H H':Hp) (h h':Heap):Prop where
 keep:∀b o,h.get? b=some o->H b=none->b∉fs->b∉ex->h'.get? b=some o
 slot:∀b o,h.get? b=some o->H b=none->b∈fs->b∉ex->∃sl,h'.get? b=some {o with slots:=sl}
 free:∀b o,h.get? b=some o->H b=none->b∉ex->H' b=none
 there:∀b o,h.get? b=some o->b∉ex->∃o',h'.get? b=some o'
 tups:∀b xs,H b=some (.tup xs)->H' b=some (.tup xs)
 frzs:∀b o u,H b=some (.frz o u)->H' b=some (.frz o u)
 tbls:∀b ps,H b=some (.tbl ps)->∃more,H' b=some (.tbl (ps++more))
section
variable {fs fs' ex ex':List Addr} {H H1 H2:Hp} {h h1 h2 h':Heap} {a x e:Addr} {o:HO}
theorem Un.any (u:Un fs ex H H1 h h1) {b:Addr} {ob:Obj} (q:h.get? b=some ob) (n:H b=none) (hx:b∉ex):∃sl,h1.get? b=some {ob with slots:=sl}:=by
 by_cases hb:b∈fs
 ·exact u.slot b ob q n hb hx
 ·exact⟨ob.slots,u.keep b ob q n hb hx⟩
theorem Un.kept (k:∀b u,h.get? b=some u->h'.get? b=some u):Un fs ex H H h h':=
 ⟨λb ob q ο ο ο=>k b ob q,λb ob q ο ο ο=>⟨ob.slots,k b ob q⟩,λο ο ο n ο=>n,λb ob q ο=>⟨ob,k b ob q⟩,λο ο q=>q,λο ο ο q=>q,λο ps q=>⟨#[],by rw[q];simp⟩⟩
theorem Un.refl:Un fs ex H H h h:=Un.kept λο ο q=>q
theorem Un.laid (k:∀b u,h.get? b=some u->h'.get? b=some u) (hp:h.objs.size<=a) (hn:H a=none):Un fs ex H (yC H a o) h h' where
 keep:=λb u q ο ο ο=>k b u q
 slot:=λb u q ο ο ο=>⟨u.slots,k b u q⟩
 free:=λb u q n ο=>by rw[WC (cB (JA (GA q) hp))];exact n
 there:=λb u q ο=>⟨u,k b u q⟩
 tups:=λb xs q=>by rw[WC (AE q hn)];exact q
 frzs:=λb u xs q=>by rw[WC (AE q hn)];exact q
 tbls:=λb ps q=>⟨#[],by rw[WC (AE q hn),q];simp⟩
theorem Un.write (mu:xN (H x)) (he:e=x\/H e=some (.own x)) (k:∀b u,b≠e->h.get? b=some u->h'.get? b=some u) (heo:∃u,h'.get? e=some u):Un fs ex H (yC H x o) h h':=by
 have hx:∀b,H b=none->b≠x:=λb n z=>by subst z;rw[n] at mu;exact mu
 have hb:∀b,H b=none->b≠e:=λb n z=>by
  subst z;rcases he with r|r
  ·exact hx b n r
  ·rw[n] at r;cases r
 have hm:∀b u,H b=some u->¬xN (some u)->b≠x:=λb u q nm z=>by subst z;rw[q] at mu;exact nm mu
 refine⟨λb u q n ο ο=>k b u (hb b n) q,λb u q n ο ο=>⟨u.slots,k b u (hb b n) q⟩,λb u q n ο=>by rw[WC (hx b n)];exact n,λb u q ο=>?_,
  λb xs q=>by rw[WC (hm b _ q λz=>z)];exact q,λb u xs q=>by rw[WC (hm b _ q λz=>z)];exact q,λb ps q=>⟨#[],by rw[WC (hm b _ q λz=>z),q];simp⟩⟩
 by_cases hbe:b=e
 ·subst hbe;exact heo
 ·exact⟨u,k b u hbe q⟩
theorem Un.mono (u:Un fs ex H H1 h h1) (hs:∀b∈fs,b∈fs') (hx:∀b∈ex,b∈ex'):Un fs' ex' H H1 h h1:=
 ⟨λb ob q n hb he=>u.keep b ob q n (λz=>hb (hs b z)) λz=>he (hx b z),λο ο q n ο he=>u.any q n λz=>he (hx _ z),λb ob q n he=>u.free b ob q n λz=>he (hx b z),λb ob q he=>u.there b ob q λz=>he (hx b z),u.tups,u.frzs,u.tbls⟩
end
noncomputable def trk (h:Heap) (H:Hp):List Addr:=(List.range h.objs.size).filter λa=>(H a).isSome
noncomputable def dG (h:Heap) (H:Hp):Heap:=PySem.W.hideAll h (trk h H)
theorem yf (h:Heap) (H:Hp):(dG h H).objs.size=h.objs.size:=PySem.W.hideAll_size _ _
theorem zf {h:Heap} {H:Hp} {b:Addr} {o:Obj} (e:h.get? b=some o) (n:H b=none):(dG h H).get? b=some o:=
 PySem.W.hideAll_get _ e λhm=>by
  have q:(H b).isSome=true:=(zB.mp hm).2;rw[n] at q;simp at q
theorem Tf {h:Heap} {H:Hp} {b:Addr} {o:Obj} (e:(dG h H).get? b=some o):h.get? b=some o/\H b=none:=by
 have e':h.get? b=some o:=PySem.W.of_hideAll (trk h H) e;refine⟨e',?_⟩;cases q:H b with
 |none=>rfl
 |some x=>
  have hm:b∈trk h H:=zB.mpr ⟨List.mem_range.mpr (GA e'),by simp[q]⟩;have z:(dG h H).get? b=none:=PySem.W.hideAll_none (trk h H) hm;rw[z] at e;cases e
noncomputable def GI (g h:Heap) (L:Addr):List (Addr×Obj):=(List.range h.objs.size).filterMap λa=>if a=L\/(g.get? a).isSome=true then none else (h.get? a).map λo=>(a,o)
noncomputable def rest (g h:Heap) (L d:Addr):List (Addr×Obj):=(GI g h L).filter λp=>decide (p.1≠d)
end L2
namespace L2
open PySem PySem.Spec PyProof.Rows
structure Mod (K:PySem.W.Frag) (mg:Str->Option Value) (base:Heap):Prop where
 kin:K.In base
 glob:base.Ns mainGlobals mg
 blt:∃mb,base.Ns builtinsNs mb/\∀x:Str,x≠"__name__"->mb x=bootBuiltins x
 nolimit:base.NoLimit
set_option genInjectivity false in
structure Cx where
 prog:Program
 w:World
 K:PySem.W.Frag
 mg:Str->Option Value
 base:Heap
 A:Around
 N:List Str
 s₀:Shared
 H₀:Hp
 env:Env
 outer:List Env
 stack:List Env
 ex:List Addr
 fn:Str->Bool
 calm:Bool
 pn:List (Addr×Obj)
 xe:Value->Shared->Prop
noncomputable def VD (l:List Env):List Addr:=l.filterMap (·.frame)
noncomputable abbrev Cx.fs (X:Cx):List Addr:=VD X.outer
noncomputable def xT (sc:Scope) (x:Str):Prop:=sc.names.lookup x=some .local\/sc.names.lookup x=some .cell\/sc.names.lookup x=some .free
noncomputable def zR (sc:Scope) (x:Str):Prop:=sc.names.lookup x=some .local\/sc.names.lookup x=some .cell
noncomputable def yT (env:Env) (h:Heap) (m:Str->Option Value) (x:Str) (u:Value):Prop:=
 (env.kindOf x=some .local/\m x=some u)\/((env.kindOf x=some .cell\/env.kindOf x=some .free)/\∃c,env.cells.lookup x=some c/\h.IsCell c (some u))
structure Cx.Ok (X:Cx):Prop where
 mod:Mod X.K X.mg X.base
 kind:X.env.scope.kind=.function
 glob:X.env.globals=mainGlobals
 blt:X.env.builtins=builtinsNs
 above:X.s₀.heap.objs.size<=X.env.locals
 inj:∀x y c,X.env.cells.lookup x=some c->X.env.cells.lookup y=some c->x=y
 has:∀x,(X.env.kindOf x=some .cell\/X.env.kindOf x=some .free)->∃c,X.env.cells.lookup x=some c
 cab:∀x c,X.fn x=true->X.env.cells.lookup x=some c->X.s₀.heap.objs.size<=c
 hd:X.calm=true->X.A.handled=none
 frames:X.A.frames=some X.stack
 stk:X.stack=X.outer\/(X.stack=X.env::X.outer/\X.env.frame=some X.env.locals)
 exf:∀b∈X.ex,b≠X.env.locals/\∀x c,X.env.cells.lookup x=some c->c≠b
 bs:∀b o,X.base.get? b=some o->X.s₀.heap.get? b=some o/\X.H₀ b=none
 bsz:X.base.objs.size<=X.s₀.heap.objs.size
 noex:∀b o,X.base.get? b=some o->b∉X.ex
 exfs:∀b∈X.ex,b∉X.fs
 funs:X.s₀.heap.FunFrames X.base X.outer
 frf:∀b∈X.fs,X.H₀ b=none
structure wC (X:Cx) (pins:List (Addr×Obj)) (σ:List (Option V)) (H:Hp) (s:Shared):Prop where
 ok:X.Ok
 os:s.os=X.s₀.os
 bare:AllBare s.gens
 base:Un X.fs X.ex X.H₀ H X.s₀.heap s.heap
 loc:∃m,s.heap.Ns X.env.locals m/\∀(i:Nat) (x:Str) (v:V),X.N[i]?=some x->σ[i]?=some (some v)->xT X.env.scope x->∃u,FC v u/\yT X.env s.heap m x u
 cell:∀x c,X.env.cells.lookup x=some c->∃v,s.heap.IsCell c v
 free:H X.env.locals=none
 freeC:∀x c,X.env.cells.lookup x=some c->H c=none
 pin:∀p∈X.pn++pins,s.heap.get? p.1=some p.2/\H p.1=none/\p.1≠X.env.locals/\p.1∉X.fs/\∀v,p.2.data≠.cell v
 hok:wE X.prog X.w H s.heap
 len:σ.length=X.N.length
section
variable {X:Cx} {pins:List (Addr×Obj)} {σ:List (Option V)} {H H':Hp} {s:Shared} {h':Heap}
theorem Cx.Ok.nofr (ok:X.Ok) {b:Addr} {o:Obj} (e:X.base.get? b=some o):b∉X.fs:=λhb=>by
 have:=(ok.funs.mem hb).1;rw[e] at this;cases this
theorem wC.bs (I:wC X pins σ H s):∀b o,X.base.get? b=some o->s.heap.get? b=some o/\H b=none:=λb o e=>
 ⟨I.base.keep b o (I.ok.bs b o e).1 (I.ok.bs b o e).2 (I.ok.nofr e) (I.ok.noex b o e),I.base.free b o (I.ok.bs b o e).1 (I.ok.bs b o e).2 (I.ok.noex b o e)⟩
theorem wC.bk (I:wC X pins σ H s):∀b o,X.base.get? b=some o->s.heap.get? b=some o:=λb o e=>(I.bs b o e).1
theorem wC.mod (I:wC X pins σ H s):Mod X.K X.mg X.base:=I.ok.mod
theorem wC.kIn (I:wC X pins σ H s):X.K.In s.heap:=I.ok.mod.kin.keeps I.bk
theorem wC.lt (I:wC X pins σ H s):X.env.locals < s.heap.objs.size:=let ⟨_,hn,_⟩:=I.loc;hn.lt
theorem wC.sz (I:wC X pins σ H s):X.s₀.heap.objs.size<=s.heap.objs.size:=YA I.ok.above (Nat.le_of_lt I.lt)
theorem wC.nofs (I:wC X pins σ H s) {a:Addr} (h:s.heap.objs.size<=a):a∉X.fs:=λhb=>by
 obtain⟨_,o,ho,_⟩:=I.ok.funs.mem hb;exact absurd (JA (GA ho) (YA I.sz h)) (lC _)
theorem wC.cne (I:wC X pins σ H s):∀x c,X.env.cells.lookup x=some c->c≠X.env.locals:=λx c e z=>by
 obtain⟨v,o,ho,hd⟩:=I.cell x c e;obtain⟨m,⟨o',es,ep,ho',hd',_⟩,_⟩:=I.loc;rw[z,ho'] at ho;cases ho;rw[hd'] at hd;cases hd
theorem wC.funs (I:wC X pins σ H s):s.heap.FunFrames X.base X.outer:=by
 have all:∀(l:List Env),(∀b∈VD l,b∈X.fs)->X.s₀.heap.FunFrames X.base l->s.heap.FunFrames X.base l:=by
  intro l
  induction l with
  |nil=>intro _ _;trivial
  |cons env r ih=>
   intro hs hl;obtain⟨hk,⟨L,o,hf,hn,ho,hd⟩,hr⟩:=hl;have hL:L∈X.fs:=hs L (by unfold VD;rw[List.filterMap_cons,hf];exact cA);obtain⟨sl,e⟩:=I.base.slot L o ho (I.ok.frf L hL) hL λz=>I.ok.exfs L z hL;exact⟨hk,⟨L,_,hf,hn,e,hd⟩,ih (λb hb=>hs b (by unfold VD;rw[List.filterMap_cons,hf];exact fA _ hb)) hr⟩
 exact all X.outer (λο hb=>hb) I.ok.funs
theorem wC.stack (I:wC X pins σ H s):s.heap.FunFrames X.base X.stack:=by
 rcases I.ok.stk with e|⟨e,hf⟩
 ·rw[e];exact I.funs
 ·rw[e];obtain⟨m,hn,_⟩:=I.loc;refine .cons (by rw[I.ok.kind];decide) hf hn ?_ I.funs;exact Heap.get?_none_of_le (YA I.ok.bsz I.ok.above)
theorem wC.stkSub (I:wC X pins σ H s):∀b∈VD X.stack,b∈X.env.locals::X.fs:=λb hb=>by
 rcases I.ok.stk with e|⟨e,hf⟩
 ·rw[e] at hb;exact fA _ hb
 ·rw[e] at hb;unfold VD at hb;rw[List.filterMap_cons,hf] at hb;exact hb
theorem wC.stkFree (I:wC X pins σ H s):∀b∈VD X.stack,H b=none:=λb hb=>by
 rcases wA.mp (I.stkSub b hb) with e|hb
 ·rw[e];exact I.free
 ·obtain⟨_,o,ho,_⟩:=I.ok.funs.mem hb;exact I.base.free b o ho (I.ok.frf b hb) λz=>I.ok.exfs b z hb
theorem wC.step {g':Array GenState} {t':Nat} {d':Drawn} {ch:List Addr} (I:wC X pins σ H s)
  (hch:∀b∈ch,(b∈X.ex\/X.s₀.heap.objs.size<=b)/\b≠X.env.locals/\(∀x c,X.env.cells.lookup x=some c->c≠b)/\∀p∈X.pn++pins,p.1≠b)
  (keep:∀b o,b≠X.env.locals->b∉X.fs->b∉ch->s.heap.get? b=some o->H b=none->h'.get? b=some o)
  (slot:∀b o,b≠X.env.locals->b∈X.fs->b∉ch->s.heap.get? b=some o->H b=none->∃sl,h'.get? b=some {o with slots:=sl}) (free:∀b o,b∉ch->s.heap.get? b=some o->H b=none->H' b=none)
  (there:∀b o,b∉ch->s.heap.get? b=some o->∃o',h'.get? b=some o')
  (tups:∀b xs,H b=some (.tup xs)->H' b=some (.tup xs)) (frzs:∀b o u,H b=some (.frz o u)->H' b=some (.frz o u)) (tbls:∀b ps,H b=some (.tbl ps)->∃more,H' b=some (.tbl (ps++more)))
  (ns:∀m,s.heap.Ns X.env.locals m->h'.Ns X.env.locals m) (hok:wE X.prog X.w H' h') (hg:AllBare g'):
  wC X pins σ H' {s with heap:=h',gens:=g',drawn:=d',toks:=t'}:=by
 have neL:∀b o,X.s₀.heap.get? b=some o->b≠X.env.locals:=λb o e=>cB (JA (GA e) I.ok.above);have neC:∀b o,X.s₀.heap.get? b=some o->b∉X.ex->b∉ch:=λb o e hx hb=>by
  rcases (hch b hb).1 with z|z
  ·exact hx z
  ·exact absurd (JA (GA e) z) (lC _)
 have cellK:∀x c,X.env.cells.lookup x=some c->∀v,s.heap.IsCell c v->h'.IsCell c v:=λx c e v ⟨o,ho,hd⟩=>by
  have nch:c∉ch:=λz=>(hch c z).2.2.1 x c e rfl;by_cases hc:c∈X.fs
  ·obtain⟨sl,q⟩:=slot c o (I.cne x c e) hc nch ho (I.freeC x c e);exact⟨_,q,hd⟩
  ·exact⟨o,keep c o (I.cne x c e) hc nch ho (I.freeC x c e),hd⟩
 refine⟨I.ok,I.os,hg,⟨λb o e n hb hx=>?_,λb o e n hb hx=>?_,λb o e n hx=>?_,λb o e hx=>?_,λb xs e=>tups b xs (I.base.tups b xs e),λb o xs e=>frzs b o xs (I.base.frzs b o xs e),λb ps e=>?_⟩,?_,λx c e=>?_,?_,λx c e=>?_,λp hp=>?_,hok,I.len⟩
 ·exact keep b o (neL b o e) hb (neC b o e hx) (I.base.keep b o e n hb hx) (I.base.free b o e n hx)
 ·obtain⟨sl,e1⟩:=I.base.slot b o e n hb hx;obtain⟨sl',e2⟩:=slot b _ (neL b o e) hb (neC b o e hx) e1 (I.base.free b o e n hx);exact⟨sl',e2⟩
 ·obtain⟨o',e1⟩:=I.base.there b o e hx;exact free b o' (neC b o e hx) e1 (I.base.free b o e n hx)
 ·obtain⟨o',e1⟩:=I.base.there b o e hx;exact there b o' (neC b o e hx) e1
 ·obtain⟨m1,e1⟩:=I.base.tbls b ps e;obtain⟨m2,e2⟩:=tbls b _ e1;exact⟨m1++m2,by rw[e2,Array.append_assoc]⟩
 ·obtain⟨m,hn,hl⟩:=I.loc;refine⟨m,ns m hn,λi x v e1 e2 e3=>?_⟩;obtain⟨u,r,l⟩:=hl i x v e1 e2 e3;refine⟨u,r,?_⟩;rcases l with l|⟨k,c,e,z⟩
  ·exact .inl l
  ·exact .inr ⟨k,c,e,cellK x c e _ z⟩
 ·obtain⟨v,z⟩:=I.cell x c e;exact⟨v,cellK x c e v z⟩
 ·obtain⟨m,⟨o,_,_,ho,_⟩,_⟩:=I.loc;exact free _ o (λz=>(hch _ z).2.1 rfl) ho I.free
 ·obtain⟨v,o,ho,hd⟩:=I.cell x c e;exact free c o (λz=>(hch c z).2.2.1 x c e rfl) ho (I.freeC x c e)
 ·obtain⟨e,n,ne,nf,d⟩:=I.pin p hp;have nch:p.1∉ch:=λz=>(hch p.1 z).2.2.2 p hp rfl;exact⟨keep p.1 p.2 ne nf nch e n,free p.1 p.2 nch e n,ne,nf,d⟩
theorem wC.un {t':Nat} (I:wC X pins σ H s) (u:Un X.fs [] H H' s.heap h') (hok:wE X.prog X.w H' h'):wC X pins σ H' {s with heap:=h',toks:=t'}:=by
 obtain⟨m,⟨o,es,ep,ho,r⟩,_⟩:=id I.loc;obtain⟨sl,hL⟩:=u.any ho I.free (by simp);exact I.step (g':=s.gens) (d':=s.drawn) (ch:=[]) (λο z=>nomatch z) (λb o ο hb ο e n=>u.keep b o e n hb (by simp)) (λb o ο hb ο e n=>u.slot b o e n hb (by simp)) (λb o ο e n=>u.free b o e n (by simp)) (λb o ο e=>u.there b o e (by simp)) u.tups u.frzs u.tbls (λm' hm=>by
  obtain⟨o',es',ep',ho',r'⟩:=hm;rw[ho] at ho';cases ho';exact⟨_,es',ep',hL,r'⟩) hok I.bare
theorem wC.call {g':Array GenState} {t':Nat} {d':Drawn} {ch:List Addr} (I:wC X pins σ H s) (u:Un (VD X.stack) ch H H' s.heap h') (hok:wE X.prog X.w H' h') (hg:AllBare g')
  (hch:∀b∈ch,(b∈X.ex\/X.s₀.heap.objs.size<=b)/\b≠X.env.locals/\(∀x c,X.env.cells.lookup x=some c->c≠b)/\∀p∈X.pn++pins,p.1≠b):
  wC X pins σ H' {s with heap:=h',gens:=g',drawn:=d',toks:=t'}:=by
 obtain⟨m,⟨o,es,ep,ho,r⟩,_⟩:=id I.loc;obtain⟨sl,hL⟩:=u.any ho I.free λz=>(hch _ z).2.1 rfl;exact I.step (ch:=ch) hch (λb o hL hb hc e n=>u.keep b o e n (λz=>(wA.mp (I.stkSub b z)).elim hL hb) hc) (λb o ο ο hc e n=>u.any e n hc) (λb o hc e n=>u.free b o e n hc) (λb o hc e=>u.there b o e hc) u.tups u.frzs u.tbls (λm' hm=>by
  obtain⟨o',es',ep',ho',r'⟩:=hm;rw[ho] at ho';cases ho';exact⟨_,es',ep',hL,r'⟩) hok hg
theorem wC.turned {t':Nat} {it:Addr} (I:wC X pins σ H s) (k:∀b o,b≠it->s.heap.get? b=some o->h'.get? b=some o) (hn:H it=none) (hL:it≠X.env.locals)
  (h1:it∈X.ex\/X.s₀.heap.objs.size<=it) (h2:∀x c,X.env.cells.lookup x=some c->c≠it) (h3:∀p∈X.pn++pins,p.1≠it):wC X pins σ H {s with heap:=h',toks:=t'}:=by
 have nit:∀b u,H b=some u->b≠it:=λb u e z=>by rw[z,hn] at e;cases e
 refine I.step (g':=s.gens) (d':=s.drawn) (ch:=[it]) (λb hb=>?_) (λb o ο ο hc e ο=>k b o (λz=>hc (by simp[z])) e) (λb o ο ο hc e ο=>⟨o.slots,k b o (λz=>hc (by simp[z])) e⟩) (λο ο ο ο n=>n)
  (λb o hc e=>⟨o,k b o (λz=>hc (by simp[z])) e⟩) (λο ο e=>e) (λο ο ο e=>e) (λb ps e=>⟨#[],by rw[e];simp⟩) (λm hm=>?_) (λb u e=>?_) I.bare
 ·have e:b=it:=by simpa using hb
  subst e;exact⟨h1,hL,h2,h3⟩
 ·obtain⟨o,es,ep,ho,r⟩:=hm;exact⟨o,es,ep,k _ o (Ne.symm hL) ho,r⟩
 ·refine (I.hok b u e).stay (λc v hc q=>k c v ?_ q) (λο q=>q) λο ο q=>q;rcases hc with z|z
  ·rw[z];exact nit b u e
  ·exact nit c _ z
theorem wC.tok (I:wC X pins σ H s) (t:Nat):wC X pins σ H {s with toks:=t}:=I.un (h':=s.heap) (t':=t) Un.refl I.hok
theorem wC.kept {t':Nat} (I:wC X pins σ H s) (k:∀b u,s.heap.get? b=some u->h'.get? b=some u):wC X pins σ H {s with heap:=h',toks:=t'}:=I.un (Un.kept k) (I.hok.kept k)
theorem wC.laid {a:Addr} {o:HO} {t':Nat} (I:wC X pins σ H s) (k:∀b u,s.heap.get? b=some u->h'.get? b=some u) (hp:s.heap.objs.size<=a) (new:iD X.prog X.w (yC H a o) h' a o):
 wC X pins σ (yC H a o) {s with heap:=h',toks:=t'}:=I.un (Un.laid k hp (I.hok.fresh hp)) (I.hok.laid k hp new)
theorem wC.write {x e:Addr} {o:HO} {t':Nat} (I:wC X pins σ H s) (mu:xN (H x)) (he:e=x\/H e=some (.own x)) (k:∀b u,b≠e->s.heap.get? b=some u->h'.get? b=some u) (heo:∃u,h'.get? e=some u)
 (new:iD X.prog X.w (yC H x o) h' x o):wC X pins σ (yC H x o) {s with heap:=h',toks:=t'}:=I.un (Un.write mu he k heo) (I.hok.write mu he k heo new)
theorem wC.pins_of {pins':List (Addr×Obj)} (I:wC X pins σ H s) (h:∀p∈pins',s.heap.get? p.1=some p.2/\H p.1=none/\p.1≠X.env.locals/\p.1∉X.fs/\∀v,p.2.data≠.cell v):wC X pins' σ H s:=
 ⟨I.ok,I.os,I.bare,I.base,I.loc,I.cell,I.free,I.freeC,λp hp=>(rA.mp hp).elim (λz=>I.pin p (RA _ z)) (h p),I.hok,I.len⟩
theorem zT {N:List Str} (hN:N.Nodup) {i j:Nat} {x:Str} (a:N[i]?=some x) (b:N[j]?=some x):i=j:=by
 obtain⟨h1,e1⟩:=LA.mp a;obtain⟨h2,e2⟩:=LA.mp b;exact (List.getElem_inj hN).mp (e1.trans e2.symm)
theorem Y2 {M:Model} {A:Around} {E:Value->Shared->Prop} {i:Nat} {x:Str} {v:V} {u:Value} {Q:Unit->Shared->Prop} (I:wC X pins σ H s) (hN:X.N.Nodup) (hi:X.N[i]?=some x) (hx:zR X.env.scope x) (r:FC v u)
  (h:∀s',wC X pins (σ.set i (some v)) H s'->(∃a,Heap.SameBut a s.heap s'.heap/\(a=X.env.locals\/X.env.cells.lookup x=some a))->Q () s') (hf:X.fn x=true\/X.env.scope.names.lookup x=some .local:=by first|exact .inl rfl|exact .inr rfl|assumption):wpAny M A (storeName X.env x u) Q E s:=by
 obtain⟨m,hn,hl⟩:=id I.loc;have hcls:(X.env.scope.kind == .class || (X.env.scope.kind == .module&&X.env.locals != X.env.globals))=false:=by rw[I.ok.kind];rfl
 have hiσ:i < σ.length:=by rw[I.len];exact (LA.mp hi).1
 have cne:=I.cne;have tracked:∀{a:Addr} {h':Heap},(∃o,s.heap.get? a=some o/\H a=none)->Heap.SameBut a s.heap h'->wE X.prog X.w H h':=λ{a h'} ha hs b ob e=>by
  obtain⟨_,_,hfree⟩:=ha;refine (I.hok b ob e).stay (λc w' hc q=>(hs.2 c ?_).trans q) (λο q=>q) λο ο q=>q;rintro rfl;rcases hc with rfl|hc
  ·rw[hfree] at e;cases e
  ·rw[hfree] at hc;cases hc
 rcases hx with hk|hk
 ·refine wpAny_storeName_local hk hn (λh' hn' hs=>?_) hcls;obtain⟨oL,_,_,hoL,_⟩:=id hn;refine h _ ⟨I.ok,I.os,I.bare,⟨λb o e n hb hx=>?_,λb o e n hb hx=>?_,I.base.free,λb o e hx=>?_,I.base.tups,I.base.frzs,I.base.tbls⟩,⟨_,hn',λj y v' e1 e2 e3=>?_⟩,λy c e=>?_,I.free,I.freeC,λp hp=>?_,tracked ⟨oL,hoL,I.free⟩ hs,by simpa using I.len⟩ ⟨_,hs,.inl rfl⟩
  ·exact (hs.2 b (cB (JA (GA e) I.ok.above))).trans (I.base.keep b o e n hb hx)
  ·obtain⟨sl,e1⟩:=I.base.slot b o e n hb hx;exact⟨sl,(hs.2 b (cB (JA (GA e) I.ok.above))).trans e1⟩
  ·obtain⟨o',e1⟩:=I.base.there b o e hx;exact⟨o',(hs.2 b (cB (JA (GA e) I.ok.above))).trans e1⟩
  ·by_cases hj:j=i
   ·subst hj;rw[hi] at e1;cases e1;rw[List.getElem?_set_self hiσ] at e2;cases e2;exact⟨u,r,.inl ⟨hk,by simp⟩⟩
   ·rw[List.getElem?_set_ne (Ne.symm hj)] at e2;obtain⟨u',r',q⟩:=hl j y v' e1 e2 e3;refine⟨u',r',?_⟩;rcases q with ⟨k,e⟩|⟨k,c,e,z⟩
    ·refine .inl ⟨k,?_⟩;have:y≠x:=λe=>hj (zT hN e1 (e ▸ hi));simp[this,e]
    ·exact .inr ⟨k,c,e,z.sameBut hs (cne y c e)⟩
  ·obtain⟨w',z⟩:=I.cell y c e;exact⟨w',z.sameBut hs (cne y c e)⟩
  ·obtain⟨e,n,ne,nf,d⟩:=I.pin p hp;exact⟨(hs.2 p.1 ne).trans e,n,ne,nf,d⟩
 ·have hfn:X.fn x=true:=by
   rcases hf with z|z
   ·exact z
   ·rw[z] at hk;cases hk
  obtain⟨c,hc⟩:=I.ok.has x (.inl hk);obtain⟨w',z⟩:=I.cell x c hc;refine wpAny_storeName_cell I.ok.kind hk hc z (λh' hc' hs=>?_);obtain⟨oc,hoc,hocd⟩:=id z;refine h {s with heap:=h'} ⟨I.ok,I.os,I.bare,⟨λb o e n hb hx=>?_,λb o e n hb hx=>?_,I.base.free,λb o e hx=>?_,I.base.tups,I.base.frzs,I.base.tbls⟩,⟨m,hn.sameBut hs (Ne.symm (cne x c hc)),λj y v' e1 e2 e3=>?_⟩,λy c' e=>?_,I.free,I.freeC,λp hp=>?_,tracked ⟨oc,hoc,I.freeC x c hc⟩ hs,by simpa using I.len⟩ ⟨c,hs,.inr hc⟩
  ·exact (hs.2 b (cB (JA (GA e) (I.ok.cab x c hfn hc)))).trans (I.base.keep b o e n hb hx)
  ·obtain⟨sl,e1⟩:=I.base.slot b o e n hb hx;exact⟨sl,(hs.2 b (cB (JA (GA e) (I.ok.cab x c hfn hc)))).trans e1⟩
  ·obtain⟨o',e1⟩:=I.base.there b o e hx;exact⟨o',(hs.2 b (cB (JA (GA e) (I.ok.cab x c hfn hc)))).trans e1⟩
  ·by_cases hj:j=i
   ·subst hj;rw[hi] at e1;cases e1;rw[List.getElem?_set_self hiσ] at e2;cases e2;exact⟨u,r,.inr ⟨.inl hk,c,hc,hc'⟩⟩
   ·rw[List.getElem?_set_ne (Ne.symm hj)] at e2;obtain⟨u',r',q⟩:=hl j y v' e1 e2 e3;refine⟨u',r',?_⟩;rcases q with q|⟨k,c',e,z'⟩
    ·exact .inl q
    ·refine .inr ⟨k,c',e,z'.sameBut hs ?_⟩;rintro rfl;exact hj (zT hN e1 (I.ok.inj _ _ _ e hc ▸ hi))
  ·by_cases hcc:c'=c
   ·subst hcc;exact⟨_,hc'⟩
   ·obtain⟨w2,z2⟩:=I.cell y c' e;exact⟨w2,z2.sameBut hs hcc⟩
  ·obtain⟨e,n,ne,nf,d⟩:=I.pin p hp;refine⟨(hs.2 p.1 ?_).trans e,n,ne,nf,d⟩;intro q;rw[q,hoc] at e;have q':oc=p.2:=FA e;exact d w' (by rw[<-q'];exact hocd)
theorem AT {M:Model} {A:Around} {E:Value->Shared->Prop} {i:Nat} {x:Str} {v:V} {u:Value} {Q:Unit->Shared->Prop} (I:wC X pins σ H s) (hN:X.N.Nodup) (hi:X.N[i]?=some x) (hx:zR X.env.scope x) (r:FC v u)
  (h:∀s',wC X pins (σ.set i (some v)) H s'->Q () s') (hf:X.fn x=true\/X.env.scope.names.lookup x=some .local:=by first|exact .inl rfl|exact .inr rfl|assumption):wpAny M A (storeName X.env x u) Q E s:=
 Y2 I hN hi hx r (λs' I' ο=>h s' I') hf
theorem wC.call' {s':Shared} {ch:List Addr} (I:wC X pins σ H s) (ho:s'.os=s.os) (u:Un (VD X.stack) ch H H' s.heap s'.heap) (hok:wE X.prog X.w H' s'.heap) (hg:AllBare s'.gens)
  (hch:∀b∈ch,(b∈X.ex\/X.s₀.heap.objs.size<=b)/\b≠X.env.locals/\(∀x c,X.env.cells.lookup x=some c->c≠b)/\∀p∈X.pn++pins,p.1≠b):wC X pins σ H' s':=by
 obtain⟨h',g',d',t',o'⟩:=s';have e:o'=s.os:=ho;subst e;exact I.call (g':=g') (t':=t') (d':=d') u hok hg hch
end
noncomputable abbrev XK:=Value->Option Addr->Hp->Prop
noncomputable abbrev St:=List (Option V)
noncomputable abbrev VK:=V->Hp->Prop
noncomputable abbrev TE:=St->Hp->VK->Prop
noncomputable abbrev TT:=St->Hp->(Bool->Hp->Prop)->Prop
noncomputable abbrev TA:=St->Hp->(List V->Hp->Prop)->Prop
set_option genInjectivity false in
structure BE where
 nx:St->Hp->Prop
 rt:VK
 bk:St->Hp->Prop:=λο ο=>False
 ct:St->Hp->Prop:=λο ο=>False
noncomputable abbrev TS:=BE->St->Hp->Prop
noncomputable def EP (X:Cx) (pins:List (Addr×Obj)) (σ:St) (Q:VK) (u:Value) (s':Shared):Prop:=∃v H',wC X pins σ H' s'/\FC v u/\Q v H'
noncomputable def TP (X:Cx) (pins:List (Addr×Obj)) (σ:St) (Q:Bool->Hp->Prop) (b:Bool) (s':Shared):Prop:=∃H',wC X pins σ H' s'/\Q b H'
noncomputable def AP (X:Cx) (pins:List (Addr×Obj)) (σ:St) (Q:List V->Hp->Prop) (us:List Value) (s':Shared):Prop:=∃vs H',wC X pins σ H' s'/\GC vs us/\Q vs H'
noncomputable def SP (X:Cx) (pins:List (Addr×Obj)) (D:BE) (f:Flow) (s':Shared):Prop:=
 match f with
 |.next=>∃σ' H',wC X pins σ' H' s'/\D.nx σ' H'
 |.brk=>∃σ' H',wC X pins σ' H' s'/\D.bk σ' H'
 |.cont=>∃σ' H',wC X pins σ' H' s'/\D.ct σ' H'
 |.ret u=>∃v σ' H',wC X pins σ' H' s'/\FC v u/\D.rt v H'
noncomputable def PE (X:Cx) (e:Expr) (t:TE):Prop:=
 ∀(pins:List (Addr×Obj)) (s:Shared) (σ:St) (H:Hp) (Q:VK),wC X pins σ H s->t σ H Q->wpAny (model X.prog X.w) X.A (eval e X.env) (EP X pins σ Q) X.xe s
noncomputable def PT (X:Cx) (e:Expr) (t:TT):Prop:=
 ∀(pins:List (Addr×Obj)) (s:Shared) (σ:St) (H:Hp) (Q:Bool->Hp->Prop),wC X pins σ H s->t σ H Q->wpAny (model X.prog X.w) X.A (isTrue e X.env (eval e X.env)) (TP X pins σ Q) X.xe s
noncomputable def PW (X:Cx) (e:Expr) (t:TT):Prop:=
 ∀(HF:Sem Value) (pins:List (Addr×Obj)) (s:Shared) (σ:St) (H:Hp) (Q:Bool->Hp->Prop),wC X pins σ H s->t σ H Q->wpAny (model X.prog X.w) X.A (isTrue e X.env HF) (TP X pins σ Q) X.xe s
theorem PW.pt {X:Cx} {e:Expr} {t:TT} (h:PW X e t):PT X e t:=h _
noncomputable def PA (X:Cx) (es:List Expr) (t:TA):Prop:=
 ∀(pos:Pos) (pins:List (Addr×Obj)) (s:Shared) (σ:St) (H:Hp) (Q:List V->Hp->Prop),wC X pins σ H s->t σ H Q->wpAny (model X.prog X.w) X.A (spliced (backTo pos (starEach es X.env))) (AP X pins σ Q) X.xe s
noncomputable def PS (X:Cx) (st:Stmt) (t:TS):Prop:=
 ∀(pins:List (Addr×Obj)) (s:Shared) (σ:St) (H:Hp) (D:BE),wC X pins σ H s->t D σ H->wpAny (model X.prog X.w) X.A (exec st X.env) (SP X pins D) X.xe s
noncomputable def TF (X:Cx) (st:List Stmt) (t:TS):Prop:=
 ∀(pins:List (Addr×Obj)) (s:Shared) (σ:St) (H:Hp) (D:BE),wC X pins σ H s->t D σ H->wpAny (model X.prog X.w) X.A (execs st X.env) (SP X pins D) X.xe s
theorem pD {α:Type} {t:Sem α} {Q Q':α->Shared->Prop} {M:Model} {A:Around} {E:Value->Shared->Prop} {s:Shared} (h:wpAny M A t Q E s) (hQ:∀a s,Q a s->Q' a s):wpAny M A t Q' E s:=rB h hQ λο ο x=>x
end L2
namespace L2
open PySem PySem.Spec PyProof.Rows
section
variable {X:Cx}
noncomputable def yK (i:Nat):TE:=λσ H Q=>∃v,σ[i]?=some (some v)/\Q v H
noncomputable def tC (v:V):TE:=λο H Q=>Q v H
theorem zK {i:Nat} {x:Str} {pos:Pos} (hN:X.N[i]?=some x) (hv:xT X.env.scope x) (hd:(x == ("__debug__":Str))=false:=by decide) (hcd:(x == ("__classdict__":Str))=false:=by decide):PE X (.Name x pos) (yK i):=by
 intro pins s σ H Q I h;obtain⟨v,e,h⟩:=h;obtain⟨m,hn,hl⟩:=I.loc;obtain⟨u,r,l⟩:=hl i x v hN e hv;have fin:EP X pins σ Q u s:=⟨v,H,I,r,h⟩
 rcases l with ⟨hk,hm⟩|⟨hk,c,hc,hcell⟩
 ·exact wpAny_Name (wpAny_loadName_local I.ok.kind hk hn hm fin) hd
 ·rcases hk with hk|hk
  ·exact wpAny_Name (wpAny_loadName_cell I.ok.kind hk hc hcell fin) hd
  ·exact wpAny_Name (wpAny_loadName_free I.ok.kind hk hc hcell fin hcd) hd
theorem sC {i j pos}:PE X (.Constant (.int i) j pos) (tC (.int i)):=λο ο ο H ο I h=>wpAny_Constant_int ⟨.int i,H,I.tok _,⟨_,rfl⟩,h⟩
theorem oG {b j pos}:PE X (.Constant (.bool b) j pos) (tC (.bl b)):=λο ο ο H ο I h=>Constant_bool ⟨.bl b,H,I,rfl,h⟩
theorem XE {j pos}:PE X (.Constant .none j pos) (tC .non):=λο ο ο H ο I h=>Constant_none ⟨.non,H,I,rfl,h⟩
theorem wD {x j pos}:PE X (.Constant (.str x) j pos) (tC (.str x)):=λο ο ο H ο I h=>Calls.Constant_str ⟨.str x,H,I.tok _,⟨_,rfl⟩,h⟩
noncomputable def Gl (X:Cx) (x:Str):Prop:=X.env.kindOf x=some .globalImplicit
theorem AK {E:Value->Shared->Prop} {pins:List (Addr×Obj)} {s:Shared} {σ:St} {H:Hp} {x:Str} {u:Value} {pos:Pos} {Q:Value->Shared->Prop} (I:wC X pins σ H s) (hg:Gl X x) (hm:X.mg x=some u) (h:Q u s)
  (hd:(x == ("__debug__":Str))=false:=by decide):wpAny (model X.prog X.w) X.A (eval (.Name x pos) X.env) Q E s:=
 Calls.Name_function_global I.ok.kind hg (Calls.loadGlobal_global (by rw[I.ok.glob];exact I.mod.glob.keeps I.bk) hm h) hd
theorem AR {E:Value->Shared->Prop} {pins:List (Addr×Obj)} {s:Shared} {σ:St} {H:Hp} {x:Str} {u:Value} {pos:Pos} {Q:Value->Shared->Prop} (I:wC X pins σ H s) (hg:Gl X x) (hm:X.mg x=none) (hv:bootBuiltins x=some u) (h:Q u s)
  (hn:x≠"__name__":=by decide) (hd:(x == ("__debug__":Str))=false:=by decide):wpAny (model X.prog X.w) X.A (eval (.Name x pos) X.env) Q E s:=by
 obtain⟨mb,h1,h2⟩:=I.mod.blt;exact Calls.Name_function_global I.ok.kind hg (Calls.loadGlobal_builtin (by rw[I.ok.glob];exact I.mod.glob.keeps I.bk) hm (by rw[I.ok.blt];exact h1.keeps I.bk) ((h2 x hn).trans hv) h) hd
theorem Uf {x:Str} {v:V} {u:Value} {pos:Pos} (hg:Gl X x) (hm:X.mg x=some u) (r:FC v u) (hd:(x == ("__debug__":Str))=false:=by decide):PE X (.Name x pos) (tC v):=
 λο ο ο H ο I h=>AK I hg hm ⟨v,H,I,r,h⟩ hd
theorem Vf {x:Str} {v:V} {u:Value} {pos:Pos} (hg:Gl X x) (hm:X.mg x=none) (hv:bootBuiltins x=some u) (r:FC v u) (hn:x≠"__name__":=by decide) (hd:(x == ("__debug__":Str))=false:=by decide):PE X (.Name x pos) (tC v):=
 λο ο ο H ο I h=>AR I hg hm hv ⟨v,H,I,r,h⟩ hn hd
variable {a b:Expr} {ta tb:TE} {pos:Pos}
noncomputable def PC (X:Cx) (op:CmpOp) (a b:Expr) (t:TE):Prop:=
 ∀(pins:List (Addr×Obj)) (s:Shared) (σ:St) (H:Hp) (Q:VK),wC X pins σ H s->t σ H Q->
  wpAny (model X.prog X.w) X.A (eval a X.env) (λv s₁=>wpAny (model X.prog X.w) X.A (eval b X.env) (λu s₂=>wpAny (model X.prog X.w) X.A (compareOp op v u) (EP X pins σ Q) X.xe s₂) X.xe s₁) X.xe s
theorem FH (b:Expr) {op:CmpOp} (h:op≠.In) (h2:op≠.NotIn):behindInMarks op b=false:=by
 have e1:(op == CmpOp.In)=false:=by cases op<;>first|rfl|exact absurd rfl h
 have e2:(op == CmpOp.NotIn)=false:=by cases op<;>first|rfl|exact absurd rfl h2
 cases b<;>simp[behindInMarks,e1,e2]
noncomputable def tB (t:TE):TT:=λσ H Q=>t σ H λx H1=>∃c,x=.bl c/\Q c H1
theorem nI {op:CmpOp} {t:TE} (h:PC X op a b t) (h1:behindInMarks op b=false:=by first|exact FH _ (by decide) (by decide)|rfl):PT X (.Compare a [op] [b] pos) (tB t):=by
 intro pins s σ H Q I hw;refine wpAny_isTrue_Compare1 (pD (h pins s σ H _ I hw) λv s1 h1=>pD h1 λu s2 h2=>pD h2 λc s3 zz=>?_) h1;obtain⟨x,H1,I1,r1,q1⟩:=zz;obtain⟨d,rfl,q⟩:=q1;cases r1;exact WB ⟨H1,I1,q⟩
theorem xE {e:Expr} {t:TE} (h:PE X e t) (he:∀HF,isTrue e X.env HF=(do let v<-HF;standAt e.pos;holding [v] (truthy v)):=by intro _;rfl):PT X e (tB t):=by
 intro pins s σ H Q I hw;refine isTrue_plain (pD (h pins s σ H _ I hw) λv s1 ⟨x,H1,I1,r1,q1⟩=>?_) (he _);obtain⟨d,rfl,q⟩:=q1;cases r1;exact WB ⟨H1,I1,q⟩
variable {tA tB':TT} {rest:List Expr}
noncomputable def yN (t u:TT):TT:=λσ H Q=>t σ H λc H1=>if c=true then u σ H1 Q else Q false H1
noncomputable def Z2 (t u:TT):TT:=λσ H Q=>t σ H λc H1=>if c=true then Q true H1 else u σ H1 Q
noncomputable def zN (t:TT):TT:=λσ H Q=>t σ H λc H1=>Q (!c) H1
theorem oI (ha:PT X a tA):PW X (.BoolOp .And [a] pos) tA:=by
 intro wh pins s σ H Q I h;refine isTrue_and (pD (ha pins s σ H Q I h) λc s1 e=>?_);cases c with
 |true=>exact isTrue_and_nil e
 |false=>exact e
theorem HI (ha:PT X a tA):PW X (.BoolOp .Or [a] pos) tA:=by
 intro wh pins s σ H Q I h;refine isTrue_or (pD (ha pins s σ H Q I h) λc s1 e=>?_);cases c with
 |false=>exact isTrue_or_nil e
 |true=>exact e
theorem GH (ha:PT X a tA) (hb:PW X (.BoolOp .And (b::rest) pos) tB'):PW X (.BoolOp .And (a::b::rest) pos) (yN tA tB'):=by
 intro wh pins s σ H Q I h;refine isTrue_and (pD (ha pins s σ H _ I h) λc s1 zz=>?_);obtain⟨H1,I1,q1⟩:=zz;cases c with
 |true=>exact hb wh pins s1 σ H1 Q I1 q1
 |false=>exact⟨H1,I1,q1⟩
theorem HH (ha:PT X a tA) (hb:PW X (.BoolOp .Or (b::rest) pos) tB'):PW X (.BoolOp .Or (a::b::rest) pos) (Z2 tA tB'):=by
 intro wh pins s σ H Q I h;refine isTrue_or (pD (ha pins s σ H _ I h) λc s1 zz=>?_);obtain⟨H1,I1,q1⟩:=zz;cases c with
 |true=>exact⟨H1,I1,q1⟩
 |false=>exact hb wh pins s1 σ H1 Q I1 q1
theorem ZF (ha:PT X a tA):PT X (.UnaryOp .Not a pos) (zN tA):=by
 intro pins s σ H Q I h;exact isTrue_not (ha pins s σ H (λc H1=>Q (!c) H1) I h)
noncomputable def fJ (ta tb:TE):TE:=λσ H Q=>ta σ H λx H1=>∃c,x=.bl c/\if c=true then tb σ H1 Q else Q (.bl false) H1
noncomputable def gJ (ta:TE):TE:=λσ H Q=>ta σ H λx H1=>∃c,x=.bl c/\Q (.bl (!c)) H1
theorem pI {op} {t:TE} (h:PE X a t):PE X (.BoolOp op [a] pos) t:=λpins s σ H Q I hw=>BoolOp_one (h pins s σ H Q I hw)
theorem cH (ha:PE X a ta) (hb:PE X (.BoolOp .And (b::rest) pos) tb):PE X (.BoolOp .And (a::b::rest) pos) (fJ ta tb):=by
 intro pins s σ H Q I h;refine BoolOp_and (pD (ha pins s σ H _ I h) λv s1 zz=>?_);obtain⟨x,H1,I1,r1,q1⟩:=zz;obtain⟨c,rfl,q1⟩:=q1;cases r1;refine WB ?_;cases c with
 |true=>exact hb pins s1 σ H1 Q I1 q1
 |false=>exact⟨.bl false,H1,I1,rfl,q1⟩
theorem i3 (ha:PE X a ta):PE X (.UnaryOp .Not a pos) (gJ ta):=by
 intro pins s σ H Q I h;refine UnaryOp_ (pD (ha pins s σ H _ I h) λv s1 zz=>?_);obtain⟨x,H1,I1,r1,q1⟩:=zz;obtain⟨c,rfl,q1⟩:=q1;cases r1;exact not_of (WB ⟨.bl (!c),H1,I1,rfl,q1⟩)
noncomputable def j3 (t:TT) (ta tb:TE):TE:=λσ H Q=>t σ H λc H1=>if c=true then ta σ H1 Q else tb σ H1 Q
theorem DR {c:Expr} (hc:PT X c tA) (ha:PE X a ta) (hb:PE X b tb):PE X (.IfExp c a b pos) (j3 tA ta tb):=by
 intro pins s σ H Q I h;refine wpAny_IfExp (pD (hc pins s σ H _ I h) λd s1 zz=>?_);obtain⟨H1,I1,q1⟩:=zz;cases d with
 |true=>exact ha pins s1 σ H1 Q I1 q1
 |false=>exact hb pins s1 σ H1 Q I1 q1
end
end L2
namespace L2
open PySem PySem.Spec PyProof.Rows
noncomputable def aD (K:PySem.W.Frag) (H:Hp) (a:Addr) (xs:List V):Prop:=
 Rd H a (.lst xs)\/
  ∃(o:Obj) (its:Array Value) (n:Nat),K.lookup a=some o/\o.cls=.type "list"/\o.dict=none/\o.data=.seq its n/\its.size<=sizeLine/\GC xs its.toList
noncomputable def OC (K:PySem.W.Frag) (H:Hp) (a:Addr) (xs:List V):Prop:=
 Rd H a (.tup xs)\/
  ∃(o:Obj) (its:Array Value) (n:Nat),K.lookup a=some o/\o.cls=.type "tuple"/\o.data=.seq its n/\its.size<=sizeLine/\GC xs its.toList
noncomputable def CT:Value->Option V
 |.none=>some .non
 |.bool b=>some (.bl b)
 |.int i _=>some (.int i)
 |.str x _=>some (.str x)
 |.bytes b _=>some (.byt b)
 |.float b _=>some (.flt b)
 |.ref a=>some (.ref a)
 |.type n=>some (.ty n)
 |_=>none
theorem FC.abs {x:V} {u:Value} (r:FC x u):CT u=some x:=by
 cases x with
 |non=>cases r;rfl
 |bl _=>cases r;rfl
 |int _=>obtain⟨t,rfl⟩:=r;rfl
 |str _=>obtain⟨t,rfl⟩:=r;rfl
 |byt _=>obtain⟨t,rfl⟩:=r;rfl
 |flt _=>obtain⟨t,rfl⟩:=r;rfl
 |ref _=>cases r;rfl
 |ty _=>cases r;rfl
theorem FC.inj {x y:V} {u:Value} (r:FC x u) (q:FC y u):x=y:=FA (r.abs.symm.trans q.abs)
theorem GC.inj:∀{xs ys:List V} {us:List Value},GC xs us->GC ys us->xs=ys
 |_,_,_,.nil,.nil=>rfl
 |_,_,_,.cons r t,.cons r' t'=>by rw[r.inj r',GC.inj t t']
section
variable {X:Cx} {pins:List (Addr×Obj)} {σ:St} {H:Hp} {s:Shared} {a:Addr} {xs ys:List V}
theorem aD.of {K:PySem.W.Frag} (h:H a=some (.lst xs)):aD K H a xs:=.inl (.inl h)
theorem OC.of {K:PySem.W.Frag} (h:H a=some (.tup xs)):OC K H a xs:=.inl (.inl h)
theorem wC.list (I:wC X pins σ H s) (h:aD X.K H a xs):∃its:List Value,GC xs its/\PlainL s.heap a its.toArray/\xs.length<=sizeLine:=by
 rcases h with h|⟨o,its,n,hk,hc,hd,hs,hz,r⟩
 ·obtain⟨z,its,n,r,e⟩:=h.ok I.hok;exact⟨its,r,⟨_,n,e,rfl,rfl,rfl⟩,z⟩
 ·refine⟨its.toList,r,⟨o,n,I.kIn a o hk,hc,hd,by simpa using hs⟩,?_⟩;have e:=r.length;simp only[EA] at e;omega
theorem wC.tuple (I:wC X pins σ H s) (h:OC X.K H a xs):∃its:List Value,GC xs its/\IsTup s.heap a its.toArray/\xs.length<=sizeLine:=by
 rcases h with h|⟨o,its,n,hk,hc,hs,hz,r⟩
 ·obtain⟨z,its,r,p⟩:=h.ok I.hok;exact⟨its,r,p,z⟩
 ·refine⟨its.toList,r,⟨o,I.kIn a o hk,hc,n,by simpa using hs⟩,?_⟩;have e:=r.length;simp only[EA] at e;omega
theorem wC.list_inj (I:wC X pins σ H s) (h:aD X.K H a xs) (h':aD X.K H a ys):xs=ys:=by
 obtain⟨its,r,⟨o,n,e,_,_,d⟩,_⟩:=I.list h;obtain⟨its',r',⟨o',n',e',_,_,d'⟩,_⟩:=I.list h';rw[e] at e';cases e';rw[d] at d';injection d' with d1 _;have:its=its':=by simpa using congrArg Array.toList d1
 subst this;exact r.inj r'
theorem wC.tuple_inj (I:wC X pins σ H s) (h:OC X.K H a xs) (h':OC X.K H a ys):xs=ys:=by
 obtain⟨its,r,⟨o,e,_,n,d⟩,_⟩:=I.tuple h;obtain⟨its',r',⟨o',e',_,n',d'⟩,_⟩:=I.tuple h';rw[e] at e';cases e';rw[d] at d';injection d' with d1 _;have:its=its':=by simpa using congrArg Array.toList d1
 subst this;exact r.inj r'
end
noncomputable abbrev Cx.wish (X:Cx) (E:Value->Shared->Prop):Cx:={X with xe:=E}
noncomputable abbrev Cx.nox (X:Cx):Cx:=X.wish λο ο=>False
theorem Cx.Ok.wish {X:Cx} (ok:X.Ok) (E:Value->Shared->Prop):(X.wish E).Ok:=
 ⟨ok.mod,ok.kind,ok.glob,ok.blt,ok.above,ok.inj,ok.has,ok.cab,ok.hd,ok.frames,ok.stk,ok.exf,ok.bs,ok.bsz,ok.noex,ok.exfs,ok.funs,ok.frf⟩
theorem Cx.Ok.unwish {X:Cx} {E:Value->Shared->Prop} (ok:(X.wish E).Ok):X.Ok:=
 ⟨ok.mod,ok.kind,ok.glob,ok.blt,ok.above,ok.inj,ok.has,ok.cab,ok.hd,ok.frames,ok.stk,ok.exf,ok.bs,ok.bsz,ok.noex,ok.exfs,ok.funs,ok.frf⟩
section
variable {X:Cx} {pins:List (Addr×Obj)} {σ:St} {H:Hp} {s:Shared} {E:Value->Shared->Prop}
theorem wC.wish (I:wC X pins σ H s) (E:Value->Shared->Prop):wC (X.wish E) pins σ H s:=⟨I.ok.wish E,I.os,I.bare,I.base,I.loc,I.cell,I.free,I.freeC,I.pin,I.hok,I.len⟩
theorem wC.unwish (I:wC (X.wish E) pins σ H s):wC X pins σ H s:=⟨I.ok.unwish,I.os,I.bare,I.base,I.loc,I.cell,I.free,I.freeC,I.pin,I.hok,I.len⟩
theorem SP.unwish {D:BE} {f:Flow} {s':Shared} (h:SP (X.wish E) pins D f s'):SP X pins D f s':=by
 cases f with
 |next=>obtain⟨σ',H',I,q⟩:=h;exact⟨σ',H',I.unwish,q⟩
 |brk=>obtain⟨σ',H',I,q⟩:=h;exact⟨σ',H',I.unwish,q⟩
 |cont=>obtain⟨σ',H',I,q⟩:=h;exact⟨σ',H',I.unwish,q⟩
 |ret u=>obtain⟨v,σ',H',I,r,q⟩:=h;exact⟨v,σ',H',I.unwish,r,q⟩
theorem PE.nox {e:Expr} {t:TE} (h:PE X.nox e t):PE X e t:=λpins s σ H Q I hw=>
 rB (h pins s σ H Q (I.wish _) hw) (λ_ _ ⟨v,H',I',r,q⟩=>⟨v,H',I'.unwish,r,q⟩) λο ο z=>False.elim z
theorem PT.nox {e:Expr} {t:TT} (h:PT X.nox e t):PT X e t:=λpins s σ H Q I hw=>
 rB (h pins s σ H Q (I.wish _) hw) (λ_ _ ⟨H',I',q⟩=>⟨H',I'.unwish,q⟩) λο ο z=>False.elim z
theorem TF.nox {st:List Stmt} {t:TS} (h:TF X.nox st t):TF X st t:=λpins s σ H D I hw=>
 rB (h pins s σ H D (I.wish _) hw) (λο ο q=>q.unwish) λο ο z=>False.elim z
end
section
variable {X:Cx} {st:Stmt} {rest:List Stmt} {t u:TS} {e:Expr} {te:TE} {pos:Pos}
noncomputable def tNext:TS:=λD σ H=>D.nx σ H
noncomputable def AN (t u:TS):TS:=λD σ H=>t {D with nx:=u D} σ H
theorem fD:TF X [] tNext:=λο ο σ H ο I h=>wpAny_execs_nil ⟨σ,H,I,h⟩
theorem NC (h1:PS X st t) (h2:TF X rest u):TF X (st::rest) (AN t u):=by
 intro pins s σ H D I h;refine wpAny_execs_cons (pD (h1 pins s σ H {D with nx:=u D} I h) λf s1 q=>?_);cases f with
 |next=>
  obtain⟨σ',H',I',q⟩:=q;exact h2 pins s1 σ' H' D I' q
 |ret v=>exact q
 |brk=>exact q
 |cont=>exact q
theorem EC (h1:PS X st t):TF X [st] t:=by
 intro pins s σ H D I h;refine wpAny_execs_cons (pD (h1 pins s σ H D I h) λf s1 q=>?_);cases f with
 |next=>exact wpAny_execs_nil q
 |ret v=>exact q
 |brk=>exact q
 |cont=>exact q
theorem wC.quiet {pins:List (Addr×Obj)} {σ:St} {H:Hp} {s:Shared} (I:wC X pins σ H s):interactive X.env=false:=by simp[interactive,I.ok.kind]
noncomputable def hJ (te:TE):TS:=λD σ H=>te σ H λο H1=>D.nx σ H1
theorem uE (he:PE X e te) (hs:swapsWith e none pos.line X.env=pure false:=by rfl):PS X (.Expr e pos) (hJ te):=by
 intro pins s σ H D I h;exact wpAny_Expr_any (pD (he pins s σ H _ I h) λv s1 ⟨x,H1,I1,r1,q1⟩=>⟨σ,H1,I1,q1⟩) I.quiet hs
noncomputable def BN (te:TE):TS:=λD σ H=>te σ H D.rt
theorem YC (he:PE X e te):PS X (.Return (some e) pos) (BN te):=by
 intro pins s σ H D I h;exact wpAny_Return_some (pD (he pins s σ H _ I h) λv s1 ⟨x,H1,I1,r1,q1⟩=>⟨x,σ,H1,I1,r1,q1⟩)
noncomputable def CN (c:TT) (t u:TS):TS:=λD σ H=>c σ H λb H1=>if b=true then t D σ H1 else u D σ H1
theorem eD {c:Expr} {a b:List Stmt} {tc:TT} (hc:PT X c tc) (ha:TF X a t) (hb:TF X b u):PS X (.If c a b pos) (CN tc t u):=by
 intro pins s σ H D I h;refine wpAny_If (pD (hc pins s σ H _ I h) λd s1 zz=>?_);obtain⟨H1,I1,q1⟩:=zz;cases d with
 |true=>exact ha pins s1 σ H1 D I1 q1
 |false=>exact hb pins s1 σ H1 D I1 q1
end
noncomputable abbrev TG:=V->St->Hp->(St->Hp->Prop)->Prop
noncomputable def PG (X:Cx) (target:Expr) (t:TG):Prop:=
 ∀(pins:List (Addr×Obj)) (s:Shared) (σ:St) (H:Hp) (v:V) (u:Value) (Q:St->Hp->Prop),wC X pins σ H s->FC v u->t v σ H Q->
  wpAny (model X.prog X.w) X.A (assign target X.env u) (λο s'=>∃σ' H',wC X pins σ' H' s'/\Q σ' H') X.xe s
section
variable {X:Cx} {pos:Pos}
noncomputable def XG (i:Nat):TG:=λv σ H Q=>Q (σ.set i (some v)) H
theorem pF {i:Nat} {x:Str} (hN:X.N.Nodup) (hi:X.N[i]?=some x) (hx:zR X.env.scope x) (hf:X.fn x=true\/X.env.scope.names.lookup x=some .local:=by first|exact .inl rfl|exact .inr rfl|assumption):PG X (.Name x pos) (XG i):=by
 intro pins s σ H v u Q I r h;exact wpAny_assign_Name (AT I hN hi hx r (λs' I'=>⟨_,H,I',h⟩) hf)
noncomputable def BK (te:TE) (g:TG):TS:=λD σ H=>te σ H λx H1=>g x σ H1 D.nx
theorem sD {i:Nat} {x:Str} {e:Expr} {te:TE} {pos':Pos} (hN:X.N.Nodup) (hi:X.N[i]?=some x) (hx:zR X.env.scope x) (he:PE X e te) (hs:swapsWith e (some (.Name x pos')) pos.line X.env=pure false:=by rfl) (hf:X.fn x=true\/X.env.scope.names.lookup x=some .local:=by first|exact .inl rfl|exact .inr rfl|assumption):
  PS X (.Assign [.Name x pos'] e pos) (BK te (XG i)):=by
 intro pins s σ H D I h;refine wpAny_Assign_Name (pD (he pins s σ H _ I h) λv s1 zz=>?_) hs;obtain⟨y,H1,I1,r1,q1⟩:=zz;exact AT I1 hN hi hx r1 (λs2 I2=>⟨_,H1,I2,q1⟩) hf
end
section
variable {X:Cx} {pos:Pos}
noncomputable def IH (c:TT) (tb:TS):TS:=λD σ H=>∃W:Nat->St->Hp->Prop,(∃m,W m σ H)/\∀m σ H,W m σ H->
 c σ H λb H1=>if b=true then ∃N:St->Hp->Prop,(∀σ' H',N σ' H'->∃m',m' < m/\W m' σ' H')/\tb {D with nx:=N,ct:=N,bk:=D.nx} σ H1 else D.nx σ H1
theorem Wf {c:Expr} {body:List Stmt} {tc:TT} {tb:TS} (hp:PassesOwn (model X.prog X.w) X.A X.env X.xe) (hc:PT X c tc) (hb:TF X body tb):PS X (.While c body [] pos) (IH tc tb):=by
 intro pins s σ H D I h;obtain⟨W,⟨m0,w0⟩,turn⟩:=h;refine wpAny_While (codeAny_whileLoop (λn s'=>∃σ' H',wC X pins σ' H' s'/\W n σ' H') ?_ m0 ⟨σ,H,I,w0⟩);rintro n s1 ⟨σ1,H1,I1,w1⟩;refine wpAny_passesOwn hp (pD (hc pins s1 σ1 H1 _ I1 (turn n σ1 H1 w1)) λb s2 zz=>?_);obtain⟨H2,I2,q2⟩:=zz;cases b with
 |true=>
  obtain⟨N,hN,q2⟩:=q2;rw[bA rfl];refine wpAny_passesOwn hp (pD (hb pins s2 σ1 H2 _ I2 q2) λf s3 q3=>?_);cases f with
  |next=>
   obtain⟨σ3,H3,I3,n3⟩:=q3;obtain⟨m',hm,w3⟩:=hN σ3 H3 n3;exact⟨m',hm,σ3,H3,I3,w3⟩
  |cont=>
   obtain⟨σ3,H3,I3,n3⟩:=q3;obtain⟨m',hm,w3⟩:=hN σ3 H3 n3;exact⟨m',hm,σ3,H3,I3,w3⟩
  |brk=>exact q3
  |ret v=>exact q3
 |false=>
  rw[aA nA];exact wpAny_execs_nil ⟨σ1,H2,I2,q2⟩
end
set_option genInjectivity false in
structure It where
 go:Nat->Hp->Prop
 yld:Nat->Hp->V->Hp->Prop
 stop:Nat->Hp->Prop
noncomputable def iF (X:Cx) (pins:List (Addr×Obj)) (H:Hp) (b:Addr):Prop:=
 H b=none/\b≠X.env.locals/\b∉X.fs/\(b∈X.ex\/X.s₀.heap.objs.size<=b)/\(∀x c,X.env.cells.lookup x=some c->c≠b)/\∀p∈X.pn++pins,p.1≠b
theorem wC.fpOk {X:Cx} {pins:List (Addr×Obj)} {σ:St} {H H':Hp} {s:Shared} {b:Addr} (I:wC X pins σ H s) (hb:s.heap.objs.size<=b) (hn:H' b=none):iF X pins H' b:=by
 refine⟨hn,Nat.ne_of_gt (JA I.lt hb),I.nofs hb,.inr (YA I.sz hb),λx c e z=>?_,λp hp z=>?_⟩
 ·obtain⟨v,q⟩:=I.cell x c e;exact absurd (JA q.lt (by rw[z];exact hb)) (lC _)
 ·exact absurd (JA (GA (I.pin p hp).1) (by rw[z];exact hb)) (lC _)
structure dH (P:Program) (w:World) (K:PySem.W.Frag) (tg:Expr) (J:It) (fp:List Addr) (it:Addr) (tn:Nat->Heap->Prop):Prop where
 mem:it∈fp
 obj:∀i h,tn i h->∀b∈fp,∃o,h.get? b=some o/\∀v,o.data≠.cell v
 keep:∀i h h',tn i h->(∀b∈fp,∀o,h.get? b=some o->h'.get? b=some o)->tn i h'
 item:∀(X:Cx),X.prog=P->X.w=w->X.K=K->X.calm=true->∀(i:Nat) (pins:List (Addr×Obj)) (s:Shared) (σ:St) (H:Hp) (E:Value->Shared->Prop),wC X pins σ H s->(∀b∈fp,iF X pins H b)->tn i s.heap->J.go i H->
  wpAny (model P w) X.A (pyNext (.ref it)) (λr s1=>∃u,r=some u/\
   wpAny (model P w) X.A (letOwnedTupleGo tg (.ref it) u) (λο s2=>∃x H',wC X pins σ H' s2/\FC x u/\J.yld i H x H'/\tn (i+1) s2.heap/\∀b∈fp,H' b=none) E s1) E s
 done:∀(X:Cx),X.prog=P->X.w=w->X.K=K->X.calm=true->∀(i:Nat) (pins:List (Addr×Obj)) (s:Shared) (σ:St) (H:Hp) (E:Value->Shared->Prop),wC X pins σ H s->(∀b∈fp,iF X pins H b)->tn i s.heap->J.stop i H->
  wpAny (model P w) X.A (pyNext (.ref it)) (λr s1=>r=none/\wC X pins σ H s1) E s
 self:∀(A:Around) (i:Nat) (s:Shared) (Q:Value->Shared->Prop) (E:Value->Shared->Prop),tn i s.heap->Q (.ref it) s->wpAny (model P w) A (pyIter (.ref it)) Q E s
noncomputable abbrev TI:=St->Hp->(It->Hp->Prop)->Prop
noncomputable def y3 (X:Cx) (pins:List (Addr×Obj)) (σ:St) (tg:Expr) (R:It->Hp->Prop) (itv:Value) (s2:Shared):Prop:=
 ∃(it:Addr) (fp:List Addr) (tn:Nat->Heap->Prop) (J:It) (H':Hp),itv=.ref it/\wC X pins σ H' s2/\dH X.prog X.w X.K tg J fp it tn/\tn 0 s2.heap/\(∀b∈fp,iF X pins H' b)/\R J H'
noncomputable def PI (X:Cx) (tg iter:Expr) (wi:TI):Prop:=
 ∀(pins:List (Addr×Obj)) (s:Shared) (σ:St) (H:Hp) (R:It->Hp->Prop),wC X pins σ H s->wi σ H R->
  wpAny (model X.prog X.w) X.A (eval iter X.env) (λv s1=>wpAny (model X.prog X.w) X.A (pyIter v) (y3 X pins σ tg R) X.xe s1) X.xe s
theorem DT {M : Model} {A : Around} {E : Value -> Shared -> Prop} {s : Shared} {tg : Expr} {it : Addr} {u : Value} {o : Obj} {n : String} {vs : Array Value} {Q : Unit -> Shared -> Prop} (ho : s.heap.get? it = some o) (hc : o.cls = .type n) (hd : o.data = .fields vs)
    (hn : ["enumerate", "zip", "dict_itemiterator", "dict_reverseitemiterator", "odict_iterator", "itertools.zip_longest", "itertools.pairwise"].contains n = false) (hQ : Q () s) : wpAny M A (letOwnedTupleGo tg (.ref it) u) Q E s := by
  unfold letOwnedTupleGo;cases tg <;> first
    | exact OA hQ
    | (cases u <;> first
        | exact OA hQ
        | (refine jA (wpAny_load ho ?_)
           rw [hc, hd];show wpAny M A (if (["enumerate", "zip", "dict_itemiterator", "dict_reverseitemiterator", "odict_iterator", "itertools.zip_longest", "itertools.pairwise"].contains n && vs[0]? == some (rawInt _)) = true then _ else _) Q E s;rw [aA (by intro h; rw [hn, dC] at h; cases h)];exact OA hQ))
noncomputable def CK (K:PySem.W.Frag) (a:Addr):It:=
 ⟨λi H=>∃xs x,aD K H a xs/\xs[i]?=some x,λi H x H'=>H'=H/\∀xs,aD K H a xs->xs[i]?=some x,λi H=>∃xs,aD K H a xs/\xs.length<=i⟩
noncomputable def iJ (lo:Int) (n:Nat):It:=⟨λi ο=>i < n,λi H x H'=>H'=H/\x=.int (lo+i),λi ο=>n<=i⟩
theorem Xf {P:Program} {w:World} {K:PySem.W.Frag} {tg:Expr} (a it:Addr):dH P w K tg (CK K a) [it] it (λi h=>h.IsListIter it a i) where
 mem:=by simp
 obj:=λi h st b hb=>by
  have e:b=it:=by simpa using hb
  subst e;obtain⟨o,e,c,d⟩:=st;exact⟨o,e,λv z=>by rw[d] at z;cases z⟩
 keep:=λi h h' st k=>st.at λo e=>k it (by simp) o e
 item:=by
  intro X hP hw hK hc i pins s σ H E I hf st hg;subst hP hw hK;obtain⟨xs,x,hq,hx⟩:=hg;obtain⟨its,rv,p,hz⟩:=I.list hq;obtain⟨u,hu,ru⟩:=rv.get hx;obtain⟨f0,f1,f2,f3,f4,f5⟩:=hf it (by simp);refine wpAny_pyNext_list_item st p.isList (x:=u) (by simpa using hu) λh' st' sb=>?_;have I1:wC X pins σ H {s with heap:=h'}:=I.turned (t':=s.toks) (λb o hb e=>(sb.2 b hb).trans e) f0 f1 f3 f4 f5;obtain⟨o,e,c,d⟩:=id st';exact⟨u,rfl,DT (s:={s with heap:=h'}) e c d (by decide) ⟨x,H,I1,ru,⟨rfl,λys hy=>by rw[I.list_inj hy hq];exact hx⟩,st',λb hb=>(hf b hb).1⟩⟩
 done:=by
  intro X hP hw hK hc i pins s σ H E I hf st hg;subst hP hw hK;obtain⟨xs,hq,hx⟩:=hg;obtain⟨its,rv,p,hz⟩:=I.list hq;obtain⟨f0,f1,f2,f3,f4,f5⟩:=hf it (by simp);have hl:=rv.length;exact wpAny_pyNext_list_end (I.ok.hd hc) st p.isList (by simp;omega) λh' eb=>⟨rfl,I.turned (t':=s.toks) (λb o hb e=>eb b o hb e) f0 f1 f3 f4 f5⟩
 self:=λο ο ο ο ο st h=>wpAny_pyIter_listiter st h
theorem Zf {P:Program} {w:World} {K:PySem.W.Frag} {tg:Expr} (it:Addr) (lo:Int) (n:Nat):dH P w K tg (iJ lo n) [it] it (λi h=>IsRangeIter h it (lo+(i:Nat) * 1) ((n:Int) - (i:Nat)) 1) where
 mem:=by simp
 obj:=λi h st b hb=>by
  have e:b=it:=by simpa using hb
  subst e;exact⟨_,st,λv z=>by
   have z':Data.fields _=Data.cell v:=z;cases z'⟩
 keep:=λi h h' st k=>k it (by simp) _ st
 item:=by
  intro X hP hw hK hc i pins s σ H E I hf st hg;subst hP hw hK;obtain⟨f0,f1,f2,f3,f4,f5⟩:=hf it (by simp);have W:=Walks.range (prog:=X.prog) (w:=X.w) (I.ok.hd hc) it lo 1 n;refine W.item i s _ _ hg st λv h' tk hv st' kk=>?_;obtain⟨t,rfl⟩:=hv;have I1:wC X pins σ H {s with heap:=h',toks:=tk}:=I.turned (λb o hb e=>kk b o (by simpa using hb) e) f0 f1 f3 f4 f5;refine⟨_,rfl,DT (s:={s with heap:=h',toks:=tk}) (n:="range_iterator") st' rfl rfl (by decide) ⟨.int (lo+i),H,I1,⟨t,?_⟩,⟨rfl,rfl⟩,st',λb hb=>(hf b hb).1⟩⟩;rw[Int.mul_one]
 done:=by
  intro X hP hw hK hc i pins s σ H E I hf st hg;subst hP hw hK;obtain⟨f0,f1,f2,f3,f4,f5⟩:=hf it (by simp);exact wpAny_pyNext_range_end (I.ok.hd hc) st (by have:n<=i:=hg;omega) λh' eb=>⟨rfl,I.turned (t':=s.toks) (λb o hb e=>eb b o hb e) f0 f1 f3 f4 f5⟩
 self:=λο ο ο ο ο st h=>wpAny_pyIter_rangeiter st h
end L2
namespace L2
open PySem PySem.Spec PyProof.Rows
section
variable {X:Cx} {tg:Expr}
noncomputable def jJ (K:PySem.W.Frag) (tl:TE):TI:=λσ H R=>tl σ H λx H1=>∃a,x=.ref a/\(∃xs,aD K H1 a xs)/\R (CK K a) H1
theorem AG {l:Expr} {tl:TE} (hl:PE X l tl):PI X tg l (jJ X.K tl):=by
 intro pins s σ H R I h;refine pD (hl pins s σ H _ I h) λv s1 zz=>?_;obtain⟨x,H1,I1,r1,q1⟩:=zz;obtain⟨a,e,⟨xs,hq⟩,q⟩:=q1;subst e;cases r1;obtain⟨its,rv,p,hz⟩:=I1.list hq;refine wpAny_pyIter_list p.isList ?_;refine⟨s1.heap.objs.size,[s1.heap.objs.size],_,_,H1,rfl,I1.kept (t':=s1.toks) λb o e=>CA _ e,Xf a _,⟨_,XA _ rfl,rfl,rfl⟩,λb hb=>?_,q⟩;have e:b=s1.heap.objs.size:=by simpa using hb
 subst e;exact I1.fpOk (iA _) (I1.hok.fresh (iA _))
theorem ag {pins:List (Addr×Obj)} {σ:St} {H:Hp} {s:Shared} {R:It->Hp->Prop} {E:Value->Shared->Prop} {lo hi:Int} {t u v:Tok} {tk:Nat} (I:wC X pins σ H s) (h1: -(2 ^ 62)<=lo) (h2:lo < 2 ^ 62) (h3: -(2 ^ 62)<=hi) (h4:hi < 2 ^ 62)
  (q:R (iJ lo (hi - lo).toNat) H):wpAny (model X.prog X.w) X.A (pyIter (.ref s.heap.objs.size)) (y3 X pins σ tg R) E {s with heap:=s.heap.push {cls:=.type "range",data:=.fields #[.int lo t,.int hi u,.int 1 v]},toks:=tk}:=by
 refine wpAny_pyIter_range (IsRange.new ..) (small_one h1 h2 h3 h4) ?_;have I1:wC X pins σ H {s with heap:=s.heap.push {cls:=.type "range",data:=.fields #[.int lo t,.int hi u,.int 1 v]},toks:=tk}:=I.kept λb o e=>CA _ e;refine⟨(s.heap.push {cls:=.type "range",data:=.fields #[.int lo t,.int hi u,.int 1 v]}).objs.size,[(s.heap.push {cls:=.type "range",data:=.fields #[.int lo t,.int hi u,.int 1 v]}).objs.size],_,_,H,rfl,
  I1.kept (t':=tk) λb o e=>CA _ e,Zf _ lo (hi - lo).toNat,?_,λb hb=>?_,q⟩
 ·have e1:lo+((0:Nat):Int) * 1=lo:=by simp
  have e2:(((hi - lo).toNat:Nat):Int) - ((0:Nat):Int)=Builtin.Range.rangeSize lo hi 1:=by rw[rangeSize_one];split<;>omega
  show IsRangeIter _ _ (lo+((0:Nat):Int) * 1) ((((hi - lo).toNat:Nat):Int) - ((0:Nat):Int)) 1;rw[e1,e2];exact XA _ rfl
 ·have e:b=(s.heap.push {cls:=.type "range",data:=.fields #[.int lo t,.int hi u,.int 1 v]}).objs.size:=by simpa using hb
  subst e;exact I1.fpOk (iA _) (I1.hok.fresh (iA _))
noncomputable def kJ (ta:TA):TI:=λσ H R=>ta σ H λvs H1=>∃j:Int,vs=[.int j]/\ -(2 ^ 62)<=j/\j < 2 ^ 62/\R (iJ 0 j.toNat) H1
theorem BM {a:Expr} {ta:TA} {p pos:Pos} (hg:Gl X "range") (hm:X.mg "range"=none) (ha:PA X [a] ta) (hs:starEach [a] X.env=[(false,eval a X.env)]:=by rfl):PI X tg (.Call (.Name "range" p) [a] [] pos) (kJ ta):=by
 intro pins s σ H R I h;refine Call_ (AR I hg hm boot_range (PyProof.Rows.callWith_type1 (pD (ha pos pins s σ H _ I h) λus s1 zz=>?_) hs rfl));obtain⟨vs,H1,I1,r1,q1⟩:=zz;obtain⟨j,e,q1,q2,q⟩:=q1;subst e;cases r1 with
 |cons r rr=>
  cases rr;obtain⟨t,rfl⟩:=r;exact call_range_1 (ag I1 ⋯ ⋯ q1 q2 (by simpa using q))
noncomputable def ET (wi:TI) (g:TG) (tb:TS):TS:=λD σ H=>wi σ H λJ H1=>∃W:Nat->Nat->St->Hp->Prop,(∃m,W 0 m σ H1)/\∀i m σ H,W i m σ H->
 (J.stop i H/\D.nx σ H)\/(J.go i H/\∃N:St->Hp->Prop,(∀σ' H',N σ' H'->∃m',m' < m/\W (i+1) m' σ' H')/\∀x H',J.yld i H x H'->g x σ H' λσ2 H2=>tb {D with nx:=N,ct:=N,bk:=D.nx} σ2 H2)
noncomputable def eG (fp:List Addr) (h:Heap):List (Addr×Obj):=fp.filterMap λb=>(h.get? b).map λo=>(b,o)
theorem CM {fp:List Addr} {h:Heap} {b:Addr} {o:Obj} (hb:b∈fp) (e:h.get? b=some o):(b,o)∈eG fp h:=eC.mpr ⟨b,hb,by rw[e];rfl⟩
theorem bg {fp:List Addr} {h:Heap} {p:Addr×Obj} (hp:p∈eG fp h):p.1∈fp/\h.get? p.1=some p.2:=by
 obtain⟨b,hb,e⟩:=eC.mp hp;cases q:h.get? b with
 |none=>rw[q] at e;cases e
 |some o=>
  rw[q] at e;have e':(b,o)=p:=FA e;subst e';exact⟨hb,q⟩
theorem wC.pinned {pins:List (Addr×Obj)} {σ:St} {H:Hp} {s:Shared} {fp:List Addr} (I:wC X pins σ H s) (hf:∀b∈fp,iF X pins H b) (ho:∀b∈fp,∃o,s.heap.get? b=some o/\∀v,o.data≠.cell v):wC X (pins++eG fp s.heap) σ H s:=
 I.pins_of λp hp=>(rA.mp hp).elim (λz=>I.pin p (BA _ z)) λz=>by
  obtain⟨hb,e⟩:=bg z;obtain⟨f0,f1,f2,_⟩:=hf p.1 hb;obtain⟨o,e',d⟩:=ho p.1 hb;rw[e] at e';cases e';exact⟨e,f0,f1,f2,d⟩
theorem wC.unpinned {pins pl:List (Addr×Obj)} {σ:St} {H:Hp} {s:Shared} (I:wC X (pins++pl) σ H s):wC X pins σ H s:=I.pins_of λp hp=>I.pin p (BA _ (RA _ hp))
theorem DK {iter:Expr} {body:List Stmt} {wi:TI} {g:TG} {tb:TS} {pos:Pos} (hp:PassesOwn (model X.prog X.w) X.A X.env X.xe) (hc:X.calm=true) (hi:PI X tg iter wi) (hg:PG X tg g) (hb:TF X body tb)
  (hs:∀x,foldedSetIterable iter X.env x=pure x:=by intro _;rfl):PS X (.For tg iter body [] pos) (ET wi g tb):=by
 intro pins s σ H D I h;refine wpAny_For (pD (hi pins s σ H _ I h) λv s1 h1=>pD h1 λitv s2 h2=>?_) hs;obtain⟨it,fp,tn,J,H2,e,I2,T,st2,f2,W,⟨m0,w0⟩,turn⟩:=h2;subst e;have stat:∀{H':Hp},(∀b∈fp,H' b=none)->∀b∈fp,iF X pins H' b:=λhn b hb=>⟨hn b hb,(f2 b hb).2⟩
 refine codeAny_forLoop_any (λn s'=>∃i σ' H',wC X pins σ' H' s'/\tn i s'.heap/\(∀b∈fp,H' b=none)/\W i n σ' H') ?_ m0 ⟨0,σ,H2,I2,st2,λb hb=>(f2 b hb).1,w0⟩;rintro n s3 ⟨i,σ3,H3,I3,st3,fr3,w3⟩;rcases turn i n σ3 H3 w3 with ⟨stop,qn⟩|⟨go,N,hN,step⟩
 ·refine wpAny_passesOwn hp (pD (T.done X rfl rfl rfl hc i pins s3 σ3 H3 X.xe I3 (stat fr3) st3 stop) λr s4 zz=>?_);obtain⟨hr,I4⟩:=zz;subst hr;exact wpAny_execs_nil ⟨σ3,H3,I4,qn⟩
 ·refine wpAny_passesOwn hp (pD (T.item X rfl rfl rfl hc i pins s3 σ3 H3 X.xe I3 (stat fr3) st3 go) λr s4 zz=>?_);obtain⟨u,hr,h4⟩:=zz;subst hr;refine wpAny_passesOwn hp (pD h4 λ_ s5 zz=>?_);obtain⟨x,H5,I5,r5,y5,st5,fr5⟩:=zz;have I5':=I5.pinned (stat fr5) (T.obj _ _ st5);refine wpAny_passesOwn hp (pD (hg _ s5 σ3 H5 x u _ I5' r5 (step x H5 y5)) λ_ s6 zz=>?_);obtain⟨σ6,H6,I6,q6⟩:=zz;refine wpAny_passesOwn hp (pD (hb _ s6 σ6 H6 _ I6 q6) λf s7 q7=>?_);have again:∀{σ7:St} {H7:Hp},wC X (pins++eG fp s5.heap) σ7 H7 s7->N σ7 H7->∃m,m < n/\∃i σ' H',wC X pins σ' H' s7/\tn i s7.heap/\(∀b∈fp,H' b=none)/\W i m σ' H':=λ{σ7 H7} I7 n7=>by
   obtain⟨m',hm,w7⟩:=hN σ7 H7 n7;refine⟨m',hm,i+1,σ7,H7,I7.unpinned,T.keep _ _ _ st5 λb hb o e=>(I7.pin (b,o) (BA _ (BA _ (CM hb e)))).1,λb hb=>?_,w7⟩;obtain⟨o,e,d⟩:=T.obj _ _ st5 b hb;exact (I7.pin (b,o) (BA _ (BA _ (CM hb e)))).2.1
  cases f with
  |next=>obtain⟨σ7,H7,I7,n7⟩:=q7;exact again I7 n7
  |cont=>obtain⟨σ7,H7,I7,n7⟩:=q7;exact again I7 n7
  |brk=>obtain⟨σ7,H7,I7,q7⟩:=q7;exact⟨σ7,H7,I7.unpinned,q7⟩
  |ret v=>obtain⟨x7,σ7,H7,I7,r7,q7⟩:=q7;exact⟨x7,σ7,H7,I7.unpinned,r7,q7⟩
end
theorem cg {K:PySem.W.Frag} {a:Addr} {xs:List V} {g:TG} {tb:TS} {D:BE} {σ:St} {H:Hp} (Pv:Nat->St->Hp->Prop) (h0:Pv 0 σ H) (hl:∀i σ H,i<=xs.length->Pv i σ H->aD K H a xs)
  (hs:∀i x σ H,xs[i]?=some x->Pv i σ H->g x σ H λσ2 H2=>tb {D with nx:=Pv (i+1),ct:=Pv (i+1),bk:=D.nx} σ2 H2) (hd:∀σ H,Pv xs.length σ H->D.nx σ H):
  ∃W:Nat->Nat->St->Hp->Prop,(∃m,W 0 m σ H)/\∀i m σ H,W i m σ H->
   ((CK K a).stop i H/\D.nx σ H)\/((CK K a).go i H/\∃N:St->Hp->Prop,(∀σ' H',N σ' H'->∃m',m' < m/\W (i+1) m' σ' H')/\∀x H',(CK K a).yld i H x H'->g x σ H' λσ2 H2=>tb {D with nx:=N,ct:=N,bk:=D.nx} σ2 H2):=by
 refine⟨λi m σ H=>m=xs.length - i/\i<=xs.length/\Pv i σ H,⟨xs.length,by simp,bC _,h0⟩,?_⟩;rintro i m σ H ⟨rfl,hi,p⟩;have q:=hl i σ H hi p;by_cases hlt:i < xs.length
 ·refine .inr ⟨⟨xs,xs[i],q,by simp[hlt]⟩,Pv (i+1),λσ' H' p'=>⟨xs.length - (i+1),⋯,rfl,hlt,p'⟩,λx H' y=>?_⟩;obtain⟨e,y⟩:=y;subst e;exact hs i x σ _ (y xs q) p
 ·have e:i=xs.length:=⋯;subst e;exact .inl ⟨⟨xs,q,iA _⟩,hd σ H p⟩
theorem dg {lo:Int} {n:Nat} {g:TG} {tb:TS} {D:BE} {σ:St} {H:Hp} (Pv:Nat->St->Hp->Prop) (h0:Pv 0 σ H)
  (hs:∀i σ H,i < n->Pv i σ H->g (.int (lo+i)) σ H λσ2 H2=>tb {D with nx:=Pv (i+1),ct:=Pv (i+1),bk:=D.nx} σ2 H2) (hd:∀σ H,Pv n σ H->D.nx σ H):
  ∃W:Nat->Nat->St->Hp->Prop,(∃m,W 0 m σ H)/\∀i m σ H,W i m σ H->
   ((iJ lo n).stop i H/\D.nx σ H)\/((iJ lo n).go i H/\∃N:St->Hp->Prop,(∀σ' H',N σ' H'->∃m',m' < m/\W (i+1) m' σ' H')/\∀x H',(iJ lo n).yld i H x H'->g x σ H' λσ2 H2=>tb {D with nx:=N,ct:=N,bk:=D.nx} σ2 H2):=by
 refine⟨λi m σ H=>m=n - i/\i<=n/\Pv i σ H,⟨n,by simp,bC _,h0⟩,?_⟩;rintro i m σ H ⟨rfl,hi,p⟩;by_cases hlt:i < n
 ·refine .inr ⟨hlt,Pv (i+1),λσ' H' p'=>⟨n - (i+1),⋯,rfl,hlt,p'⟩,λx H' y=>?_⟩;obtain⟨e,y⟩:=y;subst e y;exact hs i σ _ hlt p
 ·have e:i=n:=⋯;subst e;exact .inl ⟨iA _,hd σ H p⟩
end L2
namespace L2
open PySem PySem.Spec PyProof.Rows
noncomputable abbrev R2:=V->V->Hp->VK->Prop
noncomputable def gF (X:Cx) (f:Value->Value->Sem Value) (r:R2):Prop:=
 ∀(pins:List (Addr×Obj)) (s:Shared) (σ:St) (H:Hp) (x y:V) (v u:Value) (Q:VK),wC X pins σ H s->FC x v->FC y u->r x y H Q->
  wpAny (model X.prog X.w) X.A (f v u) (EP X pins σ Q) X.xe s
noncomputable def S3 (X:Cx) (f:Value->Sem Value) (r:V->Hp->VK->Prop):Prop:=
 ∀(pins:List (Addr×Obj)) (s:Shared) (σ:St) (H:Hp) (x:V) (v:Value) (Q:VK),wC X pins σ H s->FC x v->r x H Q->
  wpAny (model X.prog X.w) X.A (f v) (EP X pins σ Q) X.xe s
noncomputable def lE (X:Cx) (f:Value) (r:List V->Hp->VK->Prop):Prop:=
 ∀(pins:List (Addr×Obj)) (s:Shared) (σ:St) (H:Hp) (xs:List V) (us:List Value) (Q:VK),wC X pins σ H s->GC xs us->r xs H Q->
  wpAny (model X.prog X.w) X.A (call f us) (EP X pins σ Q) X.xe s
noncomputable def TruR (X:Cx) (r:V->Hp->(Bool->Hp->Prop)->Prop):Prop:=
 ∀(pins:List (Addr×Obj)) (s:Shared) (σ:St) (H:Hp) (x:V) (v:Value) (Q:Bool->Hp->Prop),wC X pins σ H s->FC x v->r x H Q->
  wpAny (model X.prog X.w) X.A (truthy v) (TP X pins σ Q) X.xe s
noncomputable def DN (r:R2) (ta tb:TE):TE:=λσ H Q=>ta σ H λx H1=>tb σ H1 λy H2=>r x y H2 Q
noncomputable def T3 (r:V->Hp->VK->Prop) (ta:TE):TE:=λσ H Q=>ta σ H λx H1=>r x H1 Q
noncomputable def rI (C:Int->Int->Prop) (g:Int->Int->V):R2:=λx y H Q=>∃i j,x=.int i/\y=.int j/\C i j/\Q (g i j) H
noncomputable def qI (g:Int->Int->V):R2:=λx y H Q=>∃i j,x=.int i/\y=.int j/\Q (g i j) H
noncomputable def rU (g:Int->V):V->Hp->VK->Prop:=λx H Q=>∃i,x=.int i/\Q (g i) H
section
variable {X:Cx} {a b c:Expr} {ta tb tc:TE} {pos:Pos}
theorem EK (ha:PE X a ta) (hb:PE X b tb) {pins:List (Addr×Obj)} {s:Shared} {σ:St} {H:Hp} {R:V->V->Hp->Prop} (I:wC X pins σ H s)
  (h:ta σ H λx H1=>tb σ H1 λy H2=>R x y H2) {Q:Value->Shared->Prop} {f:Value->Value->Sem Value}
  (hf:∀v u s2 x y H2,wC X pins σ H2 s2->FC x v->FC y u->R x y H2->wpAny (model X.prog X.w) X.A (f v u) Q X.xe s2):
  wpAny (model X.prog X.w) X.A (eval a X.env) (λv s₁=>wpAny (model X.prog X.w) X.A (eval b X.env) (λu s₂=>wpAny (model X.prog X.w) X.A (f v u) Q X.xe s₂) X.xe s₁) X.xe s:=by
 refine pD (ha pins s σ H _ I h) λv s1 zz=>?_;obtain⟨x,H1,I1,r1,q1⟩:=zz;refine pD (hb pins s1 σ H1 _ I1 q1) λu s2 zz=>?_;obtain⟨y,H2,I2,r2,q2⟩:=zz;exact hf v u s2 x y H2 I2 r1 r2 q2
theorem ZC {op:Operator} {r:R2} (ho:gF X (binaryOp op) r) (ha:PE X a ta) (hb:PE X b tb):PE X (.BinOp a op b pos) (DN r ta tb):=by
 intro pins s σ H Q I h;exact wpAny_BinOp (EK ha hb I h λv u s2 x y H2 I2 rx ry q=>ho pins s2 σ H2 x y v u Q I2 rx ry q)
theorem DM {op:UnaryOp} {r:V->Hp->VK->Prop} (ho:S3 X (unaryOp op) r) (ha:PE X a ta):PE X (.UnaryOp op a pos) (T3 r ta):=by
 intro pins s σ H Q I h;exact UnaryOp_ (pD (ha pins s σ H _ I h) λv s1 ⟨x,H1,I1,r1,q1⟩=>ho pins s1 σ H1 x v Q I1 r1 q1)
theorem EN {f:Value->Value->Sem Value} {C:Int->Int->Prop} {g:Int->Int->Int}
  (rule:∀(i j:Int) (t u:Tok) (s:Shared) (Q:Value->Shared->Prop) (E:Value->Shared->Prop),C i j->Q (.int (g i j) s.toks) {s with toks:=s.toks+1}->wpAny (model X.prog X.w) X.A (f (.int i t) (.int j u)) Q E s):
  gF X f (rI C λi j=>.int (g i j)):=by
 intro pins s σ H x y v u Q I rx ry h;obtain⟨i,j,rfl,rfl,hc,q⟩:=h;obtain⟨t,rfl⟩:=rx;obtain⟨t',rfl⟩:=ry;exact rule i j t t' s _ _ hc ⟨.int (g i j),H,I.tok _,⟨_,rfl⟩,q⟩
theorem FK {f:Value->Value->Sem Value} {g:Int->Int->Int}
  (rule:∀(i j:Int) (t u:Tok) (s:Shared) (Q:Value->Shared->Prop) (E:Value->Shared->Prop),Q (.int (g i j) s.toks) {s with toks:=s.toks+1}->wpAny (model X.prog X.w) X.A (f (.int i t) (.int j u)) Q E s):
  gF X f (qI λi j=>.int (g i j)):=by
 intro pins s σ H x y v u Q I rx ry h;obtain⟨i,j,rfl,rfl,q⟩:=h;obtain⟨t,rfl⟩:=rx;obtain⟨t',rfl⟩:=ry;exact rule i j t t' s _ _ ⟨.int (g i j),H,I.tok _,⟨_,rfl⟩,q⟩
theorem GK {f:Value->Value->Sem Value} {g:Int->Int->Bool}
  (rule:∀(i j:Int) (t u:Tok) (s:Shared) (Q:Value->Shared->Prop) (E:Value->Shared->Prop),Q (.bool (g i j)) s->wpAny (model X.prog X.w) X.A (f (.int i t) (.int j u)) Q E s):
  gF X f (qI λi j=>.bl (g i j)):=by
 intro pins s σ H x y v u Q I rx ry h;obtain⟨i,j,rfl,rfl,q⟩:=h;obtain⟨t,rfl⟩:=rx;obtain⟨t',rfl⟩:=ry;exact rule i j t t' s _ _ ⟨.bl (g i j),H,I,rfl,q⟩
noncomputable def FN (i j:Int):Prop:=0 < j/\j < 1073741824
noncomputable def GN (i j:Int):Prop:=0<=j/\j<=1000000/\i.natAbs < 2 ^ 64
noncomputable def II (i j:Int):Prop:=(-(2 ^ 64) < i/\i < 2 ^ 64)\/(-(2 ^ 64) < j/\j < 2 ^ 64)
theorem II.ok {i j:Int} (h:II i j):IntMulOk i j:=by
 rcases h with ⟨h1,h2⟩|⟨h1,h2⟩
 ·exact .of_left (intBits_le_64 h1 h2)
 ·exact .of_right (intBits_le_64 h1 h2)
theorem two_pow_nn (k:Nat):(0:Int)<=2 ^ k:=by
 rw[two_pow_cast];exact Int.natCast_nonneg _
theorem YE:gF X (binaryOp .Add) (qI λi j=>.int (i+j)):=FK λο ο ο ο ο ο ο q=>add_int q
theorem YG:gF X (binaryOp .Sub) (qI λi j=>.int (i - j)):=FK λο ο ο ο ο ο ο q=>sub_int q
theorem JI:gF X (binaryOp .Mult) (rI II λi j=>.int (i * j)):=EN λο ο ο ο ο ο ο hc q=>mul_int q hc.ok
theorem JH:gF X (binaryOp .FloorDiv) (rI FN λi j=>.int (i / j)):=EN λi j ο ο ο ο ο hc q=>by
 have h1:(0:Int) < j:=hc.1;have h2:j < 1073741824:=hc.2;exact floordiv_int ⋯ (by rw[Int.fdiv_eq_ediv_of_nonneg i ⋯];exact q) (.inl (PyProof.noPylong_small ⋯))
theorem qF:gF X (binaryOp .Mod) (rI (λο j=>0 < j) λi j=>.int (i % j)):=EN λi j ο ο ο ο ο hc q=>by
 have h1:(0:Int) < j:=hc;exact mod_int' ⋯ (by rw[Int.fmod_eq_emod_of_nonneg i ⋯];exact q)
theorem HK:gF X (binaryOp .Pow) (rI GN λi j=>.int (i ^ j.toNat)):=EN λο ο ο ο ο ο ο hc q=>pow_int_small hc.1 hc.2.1 hc.2.2 q
theorem U3:gF X (binaryOp .RShift) (rI (λο j=>0<=j) λi j=>.int (i / 2 ^ j.toNat)):=EN λi j ο ο ο ο ο hc q=>
 rshift_int hc (by rw[Int.fdiv_eq_ediv_of_nonneg i (two_pow_nn _)];exact q)
theorem JK:gF X (binaryOp .BitAnd) (qI λi j=>.int (Builtin.bitAnd i j)):=FK λο ο ο ο ο ο ο q=>and_int q
end
noncomputable def KH:V->V->Bool
 |.non,.non=>true|.non,.int _=>true|.int _,.non=>true|.non,.bl _=>true|.bl _,.non=>true|.non,.str _=>true|.str _,.non=>true
 |.int _,.int _=>true|.bl _,.bl _=>true|.str _,.str _=>true|.byt _,.byt _=>true
 |.int _,.str _=>true|.str _,.int _=>true|.bl _,.str _=>true|.str _,.bl _=>true
 |_,_=>false
noncomputable def rEq:R2:=λx y H Q=>KH x y=true/\Q (.bl (decide (x=y))) H
noncomputable def rNe:R2:=λx y H Q=>KH x y=true/\Q (.bl (!decide (x=y))) H
theorem V3 {i j:Int}:decide (V.int i=V.int j)=(i == j):=by
 rw[yB];simp
theorem W3 {i j:Bool}:decide (V.bl i=V.bl j)=(i == j):=by
 rw[yB];simp
theorem X3 {i j:Str}:decide (V.str i=V.str j)=(i == j):=by
 rw[yB];simp
theorem Y3 {i j:Array UInt8}:decide (V.byt i=V.byt j)=(i.toList == j.toList):=by
 rw[yB];cases i;cases j;simp
section
variable {X:Cx} {a b c:Expr} {ta tb tc:TE} {pos:Pos}
theorem IE {pins:List (Addr×Obj)} {σ:St} {H:Hp} {s:Shared} {Q:VK} {k k':Bool} (I:wC X pins σ H s) (q:Q (.bl k) H) (e:k=k'):EP X pins σ Q (.bool k') s:=by
 subst e;exact⟨.bl k,H,I,rfl,q⟩
theorem pE:gF X (compareOp .Eq) rEq:=by
 intro pins s σ H x y v u Q I rx ry h;obtain⟨hs,q⟩:=h;cases x with
 |non=>
  cases rx;cases y with
  |non=>cases ry;exact PySem.EqNone.eq_none_none (IE I q (by simp))
  |bl j=>cases ry;exact PySem.EqNone.eq_none_bool (IE I q (by simp))
  |int j=>obtain⟨t',rfl⟩:=ry;exact PySem.EqNone.eq_none_int (IE I q (by simp))
  |str j=>obtain⟨t',rfl⟩:=ry;exact PySem.EqNone.eq_none_str (IE I q (by simp))
  |_=>exact absurd (show false=true from hs) nA
 |bl i=>
  cases rx;cases y with
  |non=>cases ry;exact PySem.EqNone.eq_bool_none (IE I q (by simp))
  |bl j=>cases ry;exact eq_bool (IE I q W3)
  |str j=>obtain⟨t',rfl⟩:=ry;exact PySem.EqMixed.eq_bool_str (IE I q (by simp))
  |_=>exact absurd (show false=true from hs) nA
 |int i=>
  obtain⟨t,rfl⟩:=rx;cases y with
  |non=>cases ry;exact PySem.EqNone.eq_int_none (IE I q (by simp))
  |int j=>obtain⟨t',rfl⟩:=ry;exact eq_int (IE I q V3)
  |str j=>obtain⟨t',rfl⟩:=ry;exact PySem.EqMixed.eq_int_str (IE I q (by simp))
  |_=>exact absurd (show false=true from hs) nA
 |str i=>
  obtain⟨t,rfl⟩:=rx;cases y with
  |non=>cases ry;exact PySem.EqNone.eq_str_none (IE I q (by simp))
  |bl j=>cases ry;exact PySem.EqMixed.eq_str_bool (IE I q (by simp))
  |int j=>obtain⟨t',rfl⟩:=ry;exact PySem.EqMixed.eq_str_int (IE I q (by simp))
  |str j=>obtain⟨t',rfl⟩:=ry;exact eq_str (IE I q X3)
  |_=>exact absurd (show false=true from hs) nA
 |byt i=>
  obtain⟨t,rfl⟩:=rx;cases y with
  |byt j=>obtain⟨t',rfl⟩:=ry;exact PySem.W.eq_bytes (IE I q Y3)
  |_=>exact absurd (show false=true from hs) nA
 |_=>cases y<;>exact absurd (show false=true from hs) nA
theorem ER:gF X (compareOp .NotEq) rNe:=by
 intro pins s σ H x y v u Q I rx ry h;obtain⟨hs,q⟩:=h;cases x with
 |non=>
  cases rx;cases y with
  |non=>cases ry;exact PySem.EqNone.ne_none_none (IE I q (by simp))
  |bl j=>cases ry;exact PySem.EqNone.ne_none_bool (IE I q (by simp))
  |int j=>obtain⟨t',rfl⟩:=ry;exact PySem.EqNone.ne_none_int (IE I q (by simp))
  |str j=>obtain⟨t',rfl⟩:=ry;exact PySem.EqNone.ne_none_str (IE I q (by simp))
  |_=>exact absurd (show false=true from hs) nA
 |bl i=>
  cases rx;cases y with
  |non=>cases ry;exact PySem.EqNone.ne_bool_none (IE I q (by simp))
  |bl j=>cases ry;exact ne_bool (IE I q (congrArg not W3))
  |str j=>obtain⟨t',rfl⟩:=ry;exact PySem.EqMixed.ne_bool_str (IE I q (by simp))
  |_=>exact absurd (show false=true from hs) nA
 |int i=>
  obtain⟨t,rfl⟩:=rx;cases y with
  |non=>cases ry;exact PySem.EqNone.ne_int_none (IE I q (by simp))
  |int j=>obtain⟨t',rfl⟩:=ry;exact ne_int (IE I q (congrArg not V3))
  |str j=>obtain⟨t',rfl⟩:=ry;exact PySem.EqMixed.ne_int_str (IE I q (by simp))
  |_=>exact absurd (show false=true from hs) nA
 |str i=>
  obtain⟨t,rfl⟩:=rx;cases y with
  |non=>cases ry;exact PySem.EqNone.ne_str_none (IE I q (by simp))
  |bl j=>cases ry;exact PySem.EqMixed.ne_str_bool (IE I q (by simp))
  |int j=>obtain⟨t',rfl⟩:=ry;exact PySem.EqMixed.ne_str_int (IE I q (by simp))
  |str j=>obtain⟨t',rfl⟩:=ry;exact ne_str (IE I q (congrArg not X3))
  |_=>exact absurd (show false=true from hs) nA
 |byt i=>
  obtain⟨t,rfl⟩:=rx;cases y with
  |byt j=>obtain⟨t',rfl⟩:=ry;exact PySem.W.ne_bytes (IE I q (congrArg not Y3))
  |_=>exact absurd (show false=true from hs) nA
 |_=>cases y<;>exact absurd (show false=true from hs) nA
theorem UF:gF X (compareOp .Lt) (qI λi j=>.bl (decide (i < j))):=GK λο ο ο ο ο ο ο q=>lt_int q
theorem lJ:gF X (compareOp .LtE) (qI λi j=>.bl (decide (i<=j))):=GK λο ο ο ο ο ο ο q=>le_int q
theorem fH:gF X (compareOp .Gt) (qI λi j=>.bl (decide (j < i))):=GK λο ο ο ο ο ο ο q=>gt_int q
theorem sI:gF X (compareOp .Is) (λx y H Q=>y=.non/\Q (.bl (decide (x=.non))) H):=by
 intro pins s σ H x y v u Q I rx ry h;obtain⟨rfl,q⟩:=h;cases ry;refine is_none_gen (IE I q ?_);cases x<;>first
  |(cases rx;rfl)
  |(obtain⟨t,rfl⟩:=rx;rfl)
theorem HN:gF X (compareOp .IsNot) (λx y H Q=>y=.non/\Q (.bl (!decide (x=.non))) H):=by
 intro pins s σ H x y v u Q I rx ry h;obtain⟨rfl,q⟩:=h;cases ry;refine isnot_none_gen (IE I q ?_);cases x<;>first
  |(cases rx;rfl)
  |(obtain⟨t,rfl⟩:=rx;rfl)
theorem rC (b:Expr) {op:CmpOp} (h:op≠.In:=by decide) (h2:op≠.NotIn:=by decide):behindInMarks op b=false:=by
 have e1:(op == CmpOp.In)=false:=by cases op<;>first|rfl|exact absurd rfl h
 have e2:(op == CmpOp.NotIn)=false:=by cases op<;>first|rfl|exact absurd rfl h2
 cases b<;>simp[behindInMarks,e1,e2]
theorem GG {op:CmpOp} {r:R2} (ho:gF X (compareOp op) r) (ha:PE X a ta) (hb:PE X b tb) (hm:behindInMarks op b=false):PE X (.Compare a [op] [b] pos) (DN r ta tb):=by
 intro pins s σ H Q I h;exact wpAny_Compare1 (EK ha hb I h λv u s2 x y H2 I2 rx ry q=>ho pins s2 σ H2 x y v u Q I2 rx ry q) hm
noncomputable def mJ (t:TE):TT:=λσ H Q=>t σ H λx H'=>∃k,x=.bl k/\Q k H'
theorem tD {op:CmpOp} {r:R2} (ho:gF X (compareOp op) r) (ha:PE X a ta) (hb:PE X b tb) (hm:behindInMarks op b=false):PT X (.Compare a [op] [b] pos) (mJ (DN r ta tb)):=by
 intro pins s σ H Q I h;refine wpAny_isTrue_Compare1 (pD (ha pins s σ H _ I h) λv s1 ⟨x,H1,I1,r1,q1⟩=>pD (hb pins s1 σ H1 _ I1 q1) λu s2 ⟨y,H2,I2,r2,q2⟩=>
  pD (ho pins s2 σ H2 x y v u _ I2 r1 r2 q2) λc s3 ⟨z,H3,I3,r3,k,e,q3⟩=>?_) hm
 subst e;cases r3;exact WB ⟨H3,I3,q3⟩
noncomputable def LH (r r':R2) (ta tb tc:TE):TE:=λσ H Q=>ta σ H λx H1=>tb σ H1 λy H2=>r x y H2 λz H3=>∃k,z=.bl k/\
 (if k=true then tc σ H3 λw' H4=>r' y w' H4 Q else Q (.bl false) H3)
theorem eg {op op':CmpOp} {r r':R2} (ho:gF X (compareOp op) r) (ho':gF X (compareOp op') r') (ha:PE X a ta) (hb:PE X b tb) (hc:PE X c tc)
  (hm:lastMarks [op,op'] [b,c]=false:=by with_unfolding_all rfl):PE X (.Compare a [op,op'] [b,c] pos) (LH r r' ta tb tc):=by
 intro pins s σ H Q I h;refine Compare_chain (pD (ha pins s σ H _ I h) λv s1 ⟨x,H1,I1,r1,q1⟩=>chain_link (pD (hb pins s1 σ H1 _ I1 q1) λu s2 ⟨y,H2,I2,r2,q2⟩=>
  pD (ho pins s2 σ H2 x y v u _ I2 r1 r2 q2) λd s3 ⟨z,H3,I3,r3,k,e,q3⟩=>?_)) hm
 subst e;cases r3;refine WB ?_;cases k with
 |false=>exact ite_ff ⟨.bl false,H3,I3,rfl,q3⟩
 |true=>exact ite_tt (chain_last (pD (hc pins s3 σ H3 _ I3 q3) λw' s4 ⟨z',H4,I4,r4,q4⟩=>ho' pins s4 σ H4 y z' u w' Q I4 r2 r4 q4))
noncomputable def TruV (K:PySem.W.Frag) (x:V) (H:Hp) (k:Bool):Prop:=
 match x with
 |.non=>k=false
 |.bl b=>k=b
 |.int i=>k=(i != 0)
 |.str y=>y.length<=sizeLine/\k=((y.length:Int) != 0)
 |.byt y=>y.size<=sizeLine/\k=((y.size:Int) != 0)
 |.ref p=>(∃xs,aD K H p xs/\k= !xs.isEmpty)\/(∃xs,OC K H p xs/\k= !xs.isEmpty)\/∃kvs,H p=some (.dK kvs)/\k= !kvs.isEmpty
 |_=>False
theorem HG:(sizeLine:Nat) < 2 ^ 63:=by rw[sizeLine_eq];decide
theorem BF {x:V} {us:List Value} (r:GC [x] us):∃u,us=[u]/\FC x u:=by
 cases r with
 |cons r1 r2=>cases r2;exact⟨_,rfl,r1⟩
theorem nJ {x y:V} {us:List Value} (r:GC [x,y] us):∃u w',us=[u,w']/\FC x u/\FC y w':=by
 cases r with
 |cons r1 r2=>
  cases r2 with
  |cons r3 r4=>cases r4;exact⟨_,_,rfl,r1,r3⟩
theorem Z3 (hc:X.calm=true):lE X (.builtin "max") (λxs H Q=>∃i j,xs=[.int i,.int j]/\Q (.int (if j > i then j else i)) H):=by
 intro pins s σ H xs us Q I r h;obtain⟨i,j,rfl,q⟩:=h;obtain⟨u,w',rfl,⟨t,rfl⟩,⟨t',rfl⟩⟩:=nJ r;refine max_two_ints (I.ok.hd hc) λh' tk k=>⟨_,H,I.kept k,?_,q⟩
 by_cases hj:j > i
 ·rw[bA hj,bA hj];exact⟨_,rfl⟩
 ·rw[aA hj,aA hj];exact⟨_,rfl⟩
theorem i4 (hc:X.calm=true):lE X (.builtin "min") (λxs H Q=>∃i j,xs=[.int i,.int j]/\Q (.int (if j < i then j else i)) H):=by
 intro pins s σ H xs us Q I r h;obtain⟨i,j,rfl,q⟩:=h;obtain⟨u,w',rfl,⟨t,rfl⟩,⟨t',rfl⟩⟩:=nJ r;refine min_two_ints (I.ok.hd hc) λh' tk k=>⟨_,H,I.kept k,?_,q⟩
 by_cases hj:j < i
 ·rw[bA hj,bA hj];exact⟨_,rfl⟩
 ·rw[aA hj,aA hj];exact⟨_,rfl⟩
noncomputable def FT (K:PySem.W.Frag) (x:V) (H:Hp) (n:Nat):Prop:=
 match x with
 |.str y=>y.length<=sizeLine/\n=y.length
 |.byt y=>y.size<=sizeLine/\n=y.size
 |.ref p=>(∃xs,aD K H p xs/\n=xs.length)\/∃xs,OC K H p xs/\n=xs.length
 |_=>False
theorem KI:lE X (.builtin "len") (λxs H Q=>∃x n,xs=[x]/\FT X.K x H n/\Q (.int n) H):=by
 intro pins s σ H xs us Q I r h;obtain⟨x,n,rfl,e,q⟩:=h;obtain⟨u,rfl,rx⟩:=BF r;have hl:=HG;have hs:sizeLine=16777216:=sizeLine_eq;cases x with
 |str y=>
  obtain⟨t,rfl⟩:=rx;obtain⟨hy,e'⟩:y.length<=sizeLine/\n=y.length:=e;subst e';exact len_str ⋯ ⟨.int _,H,I.tok _,⟨_,rfl⟩,q⟩
 |byt y=>
  obtain⟨t,rfl⟩:=rx;obtain⟨hy,e'⟩:y.size<=sizeLine/\n=y.size:=e;subst e';exact PySem.W.len_bytes ⋯ ⟨.int _,H,I.tok _,⟨_,rfl⟩,q⟩
 |ref p=>
  cases rx;have e':(∃xs,aD X.K H p xs/\n=xs.length)\/∃xs,OC X.K H p xs/\n=xs.length:=e;rcases e' with ⟨xs,hx,e'⟩|⟨xs,hx,e'⟩
  ·subst e';obtain⟨its,r',pl,hz⟩:=I.list hx;have hlen:=r'.length;exact Calls.call_len_list pl.isList (by simp only[VA];omega) ⟨.int xs.length,H,I.tok _,⟨_,by simp only[VA];rw[hlen]⟩,q⟩
  ·subst e';obtain⟨its,r',pl,hz⟩:=I.tuple hx;have hlen:=r'.length;exact len_tuple pl (by simp only[VA];omega) ⟨.int xs.length,H,I.tok _,⟨_,by simp only[VA];rw[hlen]⟩,q⟩
 |_=>exact (show False from e).elim
end
end L2
namespace L2
open PySem PySem.Spec PyProof.Rows
structure IG (h:Heap) (x dx C:Addr) (mA:Str->Option Value):Prop where
 obj:h.get? x=some (PySem.W.instObj C dx)
 ns:h.Ns1 dx mA
 ne:dx≠x
set_option tactic.hygienic true in
theorem fg {h:Heap} {dx:Addr} {mA:Str->Option Value} (n:h.Ns1 dx mA):∃od,h.get? dx=some od/\∀name,PySem.W.lookIn name od=some (mA name):=by
 obtain⟨o,es,ep,ho,hd,hk,_,hm⟩:=n;refine⟨o,ho,λname=>?_⟩;have e:=hm name;unfold nsFind findBy at e;rw[<-Array.find?_toList] at e;unfold PySem.W.lookIn;rw[hd];dsimp only
 split
 ·rename_i y q;rw[q] at e;exact congrArg some e
 ·rename_i q;rw[q] at e;have a:es.toList.any (·.refKey)=false:=by
   rw[List.any_eq_false];intro y hy;obtain⟨z,t,hkey⟩:=hk y (Array.mem_toList_iff.mp hy);simp[DictEntry.refKey,hkey]
  have a':¬es.toList.any (·.refKey)=true:=by rw[a];exact nA
  rw[aA a'];exact congrArg some e
theorem IG.look {h:Heap} {x dx C:Addr} {mA:Str->Option Value} (I:IG h x dx C mA):∃od,PySem.W.InstAt h x (PySem.W.instObj C dx) C (some od)/\∀name,PySem.W.lookIn name od=some (mA name):=
 let ⟨od,ho,hl⟩:=fg I.ns
 ⟨od,⟨I.obj,rfl,rfl,ho⟩,hl⟩
section
variable {prog:Program} {w:World} {A:Around} {E:Value->Shared->Prop} {s:Shared} {K:PySem.W.Frag} {x dx C f:Addr} {mA:Str->Option Value} {name:Str} {v:Value}
theorem ig {expr:Bool} {Q:Value->Shared->Prop} (X:K.In s.heap) (I:IG s.heap x dx C mA) (hg:PySem.W.plainGet K C name=true) (hh:PySem.W.hasDictIn K C=true)
  (ha:PySem.W.findIn K (.ref C) name=some none) (hv:mA name=some v) (hv':PySem.W.handedIn v=true) (h:Q v {s with toks:=s.toks+1}):
  wpAny (model prog w) A (getAttr (.ref x) name expr) Q E s:=by
 obtain⟨od,J,hl⟩:=I.look;exact PySem.W.get_value X J (PySem.W.plainGet_of hg).1 (PySem.W.findObj_own hh ha rfl (by rw[hl,hv])) hv' h
theorem jg {pl:Sem Bool} {Q:Value×List Value->Shared->Prop} (X:K.In s.heap) (I:IG s.heap x dx C mA) (hg:PySem.W.plainGet K C name=true)
  (hf:PySem.W.findIn K (.ref C) name=some (some (.ref f))) (ht:PySem.W.isFn K (.ref f)=true) (hv:mA name=none) (h:Q (.ref f,[.ref x]) s):
  wpAny (model prog w) A (getMethod (.ref x) name pl) Q E s:=by
 obtain⟨od,J,hl⟩:=I.look;exact PySem.W.method_fn X J (PySem.W.plainGet_of hg).1 (PySem.W.plainGet_of hg).2 hf (RB.mp ht) (by show (PySem.W.lookIn name od).map (·.isSome)=some false;rw[hl,hv];rfl) h
theorem kg {ns:List Str} {Q:Unit->Shared->Prop} (X:K.In s.heap) (I:IG s.heap x dx C mA)
  (hs:PySem.W.findIn K (.ref C) "__setattr__"=some (some (.builtin "object.__setattr__"))) (hp:PySem.W.plainOver K C=true) (ht:PySem.W.takerIn K C name=some none) (hh:PySem.W.hasDictIn K C=true)
  (hw:PySem.Within mA ns) (hsz:ns.length<=sizeLine)
  (h:∀h',IG h' x dx C (λy=>if y=name then some v else mA y)->Heap.SameBut dx s.heap h'->Q () {s with heap:=h',toks:=s.toks+2}):
  wpAny (model prog w) A (setAttr (.ref x) name v) Q E s:=by
 obtain⟨od,J,hl⟩:=I.look;refine PySem.W.set_plain X J hs (PySem.W.osa_open (s:={s with toks:=s.toks+1}) (r:=none) X J hp ht λb=>?_);obtain⟨cd,hc,hd'⟩:=PySem.W.any_some hh;have hx:s.heap.get? x=some ⟨.ref C,some dx,.plain, #[]⟩:=I.obj;refine jA (OA (jA (jA (wpAny_loadPart hx (jA (PySem.W.Looks.here (s:={s with toks:=s.toks+1}) (PySem.W.looks_clsIn X hc) ?_))))));rw[hd'];refine OA (a:=some dx) (jA (OA (jA ?_)));refine wpAny_nsSet1 (s:={s with toks:=s.toks+1}) I.ns λh' hn2 hs2=>?_;obtain⟨oD,esD,epD,hoD,hdD,hcD⟩:=hn2.count (PySem.Within.cons name v hw);refine jA (wpAny_lookBehind hoD (by rw[hdD];exact pastItsLine_dict (YA hcD (by rw[jB];omega))) ?_);exact OA (h _ ⟨(hs2.2 _ (Ne.symm I.ne)).trans I.obj,hn2,I.ne⟩ hs2)
theorem lg {R:Result->Shared->Prop} {vs:List Value} {kw:List (Str×Value)} (X:K.In s.heap) (hm:PySem.W.makesIn K C=true)
  (hi:PySem.W.findIn K (.ref C) "__init__"=some (some (.ref f))) (hf:PySem.W.typeIn K (.ref f)=some (.type "function"))
  (h:codeAny (model prog w) (A.under (.builtin "type.__call__" ⟨.ref C::vs,kw⟩)) (.call (.ref f) ⟨.ref (s.heap.objs.size+1)::vs,kw⟩) (PySem.W.InitBack (s.heap.objs.size+1) R)
   {s with heap:=(s.heap.push PySem.W.emptyDict).push (PySem.W.instObj C s.heap.objs.size)}):
  codeAny (model prog w) A (.call (.ref C) ⟨vs,kw⟩) R s:=by
 obtain⟨hh,g,d,t,os⟩:=s;exact PySem.W.make_core (PySem.W.makes_of X hm) (PySem.W.looks_findIn X hi) (λself=>PySem.W.bind_fn X self hf) (.inl rfl) h
end
noncomputable def RD (f:Str) (v:V):List (Str×V)->List (Str×V)
 |[]=>[(f,v)]
 |(g,x)::r=>if g=f then (g,v)::r else (g,x)::RD f v r
theorem IN (f g:Str) (v:V):∀fs:List (Str×V),(RD f v fs).lookup g=if g=f then some v else fs.lookup g
 |[]=>by
  show List.lookup g [(f,v)]=_;by_cases h:g=f
  ·have hb:(g == f)=true:=RB.mpr h;simp only[List.lookup,hb,bA h]
  ·have hb:(g == f)=false:=YB.mpr h;simp only[List.lookup,hb,aA h]
 |(k,x)::r=>by
  have ih:=IN f g v r;rw[show RD f v ((k,x)::r)=(if k=f then (k,v)::r else (k,x)::RD f v r) from rfl];by_cases hk:k=f
  ·rw[bA hk];by_cases h:g=k
   ·have hb:(g == k)=true:=RB.mpr h;simp only[List.lookup,hb,bA (h.trans hk)]
   ·have hb:(g == k)=false:=YB.mpr h;simp only[List.lookup,hb,aA (λe:g=f=>h (e.trans hk.symm))]
  ·rw[aA hk];by_cases h:g=k
   ·have hb:(g == k)=true:=RB.mpr h;simp only[List.lookup,hb,aA (λe:g=f=>hk (h.symm.trans e))]
   ·have hb:(g == k)=false:=YB.mpr h;simp only[List.lookup,hb];exact ih
theorem GT (f:Str) (v:V):∀fs:List (Str×V),f∈(RD f v fs).map (·.1)/\∀g,g∈fs.map (·.1)->g∈(RD f v fs).map (·.1)
 |[]=>⟨by simp[RD],λg h=>by simp at h⟩
 |(k,x)::r=>by
  obtain⟨i1,i2⟩:=GT f v r;rw[show RD f v ((k,x)::r)=(if k=f then (k,v)::r else (k,x)::RD f v r) from rfl];by_cases hk:k=f
  ·rw[bA hk];subst hk;exact⟨by simp,λg h=>by simpa using h⟩
  ·rw[aA hk];refine⟨?_,λg h=>?_⟩
   ·rw[QA];exact fA _ i1
   ·rw[QA] at h ⊢;rcases wA.mp h with e|e
    ·exact wA.mpr (.inl e)
    ·exact fA _ (i2 g e)
theorem j4 (f:Str) (v:V):∀fs:List (Str×V),(RD f v fs).length<=fs.length+1
 |[]=>by simp[RD]
 |(k,x)::r=>by
  have ih:=j4 f v r;rw[show RD f v ((k,x)::r)=(if k=f then (k,v)::r else (k,x)::RD f v r) from rfl];by_cases hk:k=f
  ·rw[bA hk,jB,jB];omega
  ·rw[aA hk,jB,jB];omega
theorem qE.some_of {v:V} {o:Option Value} (r:qE (some v) o):∃u,o=some u/\FC v u:=by
 cases o with
 |none=>exact (show False from r).elim
 |some u=>exact⟨u,rfl,r⟩
theorem qE.none_of {o:Option Value} (r:qE none o):o=none:=by
 cases o with
 |none=>rfl
 |some u=>exact (show False from r).elim
theorem ng {v:V} {u:Value} (r:FC v u):PySem.W.handedIn u=true:=by
 cases v with
 |non=>cases (show u=Value.none from r);rfl
 |bl b=>cases (show u=Value.bool b from r);rfl
 |int i=>obtain⟨t,e⟩:=(show ∃t,u=Value.int i t from r);cases e;rfl
 |str x=>obtain⟨t,e⟩:=(show ∃t,u=Value.str x t from r);cases e;rfl
 |byt b=>obtain⟨t,e⟩:=(show ∃t,u=Value.bytes b t from r);cases e;rfl
 |flt b=>obtain⟨t,e⟩:=(show ∃t,u=Value.float b t from r);cases e;rfl
 |ref a=>cases (show u=Value.ref a from r);rfl
 |ty n=>cases (show u=Value.type n from r);rfl
section
variable {P:Program} {w:World} {H H':Hp} {h h':Heap} {a C dx:Addr} {fs fs':List (Str×V)}
theorem FR (hok:wE P w H h) (e:H a=some (.ins C dx fs)):∃mA,IG h a dx C mA/\(∀f,qE (fs.lookup f) (mA f))/\PySem.Within mA (fs.map (·.1))/\fs.length<=1000/\H dx=some (.own a):=by
 obtain⟨d,z,ne,ob,mA,n,r,q⟩:=(show iD P w H h a (.ins C dx fs) from hok a _ e)
 exact⟨mA,⟨ob,n,ne⟩,r,q,z,d⟩
end
structure BG (K:PySem.W.Frag) (C:Addr):Prop where
 pg:PySem.W.plainGet K C Str.empty=true
 hd:PySem.W.hasDictIn K C=true
 po:PySem.W.plainOver K C=true
 sa:PySem.W.findIn K (.ref C) "__setattr__"=some (some (.builtin "object.__setattr__"))
theorem BG.get {K:PySem.W.Frag} {C:Addr} (c:BG K C) (f:Str):PySem.W.plainGet K C f=true:=c.pg
noncomputable def ID (K:PySem.W.Frag) (C:Addr) (f:Str):Prop:=PySem.W.findIn K (.ref C) f=some none
theorem ID.taker {K:PySem.W.Frag} {C:Addr} {f:Str} (n:ID K C f):PySem.W.takerIn K C f=some none:=by
 unfold PySem.W.takerIn;rw[show PySem.W.findIn K (.ref C) f=some none from n]
 rfl
structure JG (K:PySem.W.Frag) (C:Addr) (m:Str) (f:Addr):Prop where
 at_:PySem.W.findIn K (.ref C) m=some (some (.ref f))
 fn:PySem.W.isFn K (.ref f)=true
 kp:PySem.W.keepIn K (.ref f)=true
section
variable {X:Cx} {pins:List (Addr×Obj)} {σ:St} {H:Hp} {s:Shared} {a C dx:Addr} {fs:List (Str×V)} {f:Str} {v:V} {A:Around} {E:Value->Shared->Prop}
theorem og {b:Bool} {Q:Value->Shared->Prop} (I:wC X pins σ H s) (e:H a=some (.ins C dx fs)) (c:BG X.K C) (n:ID X.K C f) (l:fs.lookup f=some v)
  (h:∀u s',wC X pins σ H s'->FC v u->Q u s'):wpAny (model X.prog X.w) A (getAttr (.ref a) f b) Q E s:=by
 obtain⟨mA,O,r,_,_,_⟩:=FR I.hok e;obtain⟨u,hu,ru⟩:=qE.some_of (v:=v) (o:=mA f) (by rw[<-l];exact r f);exact ig I.kIn O (c.get f) c.hd n hu (ng ru) (h u _ (I.tok _) ru)
theorem m4 {m:Str} {g:Addr} {pl:Sem Bool} {Q:Value×List Value->Shared->Prop} (I:wC X pins σ H s) (e:H a=some (.ins C dx fs)) (c:BG X.K C) (k:JG X.K C m g) (l:fs.lookup m=none)
  (h:Q (.ref g,[.ref a]) s):wpAny (model X.prog X.w) A (getMethod (.ref a) m pl) Q E s:=by
 obtain⟨mA,O,r,_,_,_⟩:=FR I.hok e;have hn:mA m=none:=qE.none_of (by rw[<-l];exact r m);exact jg I.kIn O (c.get m) k.at_ k.fn hn h
theorem qg {y:V} {u:Value} {Q:Unit->Shared->Prop} (I:wC X pins σ H s) (e:H a=some (.ins C dx fs)) (c:BG X.K C) (n:ID X.K C f) (hl:fs.length < 1000) (ry:FC y u)
  (h:∀s',wC X pins σ (yC H a (.ins C dx (RD f y fs))) s'->Q () s'):wpAny (model X.prog X.w) A (setAttr (.ref a) f u) Q E s:=by
 obtain⟨mA,O,r,wi,_,ho⟩:=FR I.hok e;have hz:(fs.map (·.1)).length<=sizeLine:=by rw[dA,sizeLine_eq];omega
 refine kg I.kIn O c.sa c.po n.taker c.hd wi hz λh' O' sb=>h _ ?_;have hd:∃o,h'.get? dx=some o:=let ⟨o,_,_,e',_⟩:=O'.ns;⟨o,e'⟩
 refine I.write (x:=a) (e:=dx) (by rw[e];exact True.intro) (.inr ho) (λb q hb z=>(sb.2 b hb).trans z) hd ?_;refine⟨by rw[WC O.ne];exact ho,?_,O.ne,O'.obj,_,O'.ns,λg=>?_,λg hg=>?_⟩
 ·have:=j4 f y fs;omega
 ·show qE ((RD f y fs).lookup g) (if g=f then some u else mA g);rw[IN];by_cases q:g=f
  ·rw[bA q,bA q];exact ry
  ·rw[aA q,aA q];exact r g
 ·by_cases q:g=f
  ·rw[q];exact (GT f y fs).1
  ·refine (GT f y fs).2 g (wi g λz=>hg ?_);show (if g=f then some u else mA g)=none;rw[aA q];exact z
theorem wC.made (I:wC X pins σ H s):wC X pins σ (yC (yC H s.heap.objs.size (.own (s.heap.objs.size+1))) (s.heap.objs.size+1) (.ins C s.heap.objs.size []))
  {s with heap:=(s.heap.push PySem.W.emptyDict).push (PySem.W.instObj C s.heap.objs.size)}:=by
 have e1:(s.heap.push PySem.W.emptyDict).get? s.heap.objs.size=some PySem.W.emptyDict:=XA s.heap rfl;have e2:((s.heap.push PySem.W.emptyDict).push (PySem.W.instObj C s.heap.objs.size)).get? (s.heap.objs.size+1)=some (PySem.W.instObj C s.heap.objs.size):=by
  have:=XA (s.heap.push PySem.W.emptyDict) (o:=PySem.W.instObj C s.heap.objs.size) rfl;rwa[Heap.size_push] at this
 have e3:(s.heap.push PySem.W.emptyDict).Ns s.heap.objs.size (λο=>none):=⟨PySem.W.emptyDict, #[],_,e1,rfl,(λe he=>absurd he (by simp)),λο=>rfl⟩
 have I1:=I.laid (a:=s.heap.objs.size) (o:=.own (s.heap.objs.size+1)) (h':=s.heap.push PySem.W.emptyDict) (t':=s.toks) (λb u q=>CA _ q) (iA _) ⟨_,e1⟩;refine I1.laid (a:=s.heap.objs.size+1) (o:=.ins C s.heap.objs.size []) (t':=s.toks) (λb u q=>CA _ q) (Nat.le_of_eq (Heap.size_push _ _)) ?_;have ne:s.heap.objs.size≠s.heap.objs.size+1:=cB (Nat.lt_succ_self _);refine⟨by rw[WC ne,SC],bC _,ne,e2,λο=>none,(Heap.Ns1.of_empty e3).at λo q=>CA _ q,λο=>True.intro,λy hy=>absurd rfl hy⟩
theorem rg {prog:Program} {w:World} {env:Env} {e:Expr} {f:Str} {pos:Pos} {s:Shared} {Q:Value->Shared->Prop} (hb:attributeBase e f env (eval e env)=eval e env)
  (h:wpAny (model prog w) A (eval e env) (λo s₁=>wpAny (model prog w) A (getAttr o f true) Q E s₁) E s):wpAny (model prog w) A (eval (.Attribute e f pos) env) Q E s:=
 Attribute_any_ h (by rw[arm_eval_Attribute,hb])
end
noncomputable def JN (K:PySem.W.Frag) (ta:TE) (f:Str):TE:=λσ H Q=>ta σ H λx H1=>∃a C dx fs v,x=.ref a/\H1 a=some (.ins C dx fs)/\BG K C/\ID K C f/\fs.lookup f=some v/\Q v H1
noncomputable def KN (K:PySem.W.Frag) (ta tv:TE) (f:Str):TS:=λD σ H=>tv σ H λy H1=>ta σ H1 λx H2=>∃a C dx fs,x=.ref a/\H2 a=some (.ins C dx fs)/\BG K C/\ID K C f/\fs.length < 1000/\
 D.nx σ (yC H2 a (.ins C dx (RD f y fs)))
section
variable {X:Cx} {o e value:Expr} {f:Str} {pos pos' tpos:Pos} {ta tv:TE}
theorem HE (he:PE X e ta) (hb:attributeBase e f X.env (eval e X.env)=eval e X.env):PE X (.Attribute e f pos) (JN X.K ta f):=by
 intro pins s σ H Q I h;refine rg hb (pD (he pins s σ H _ I h) λu s1 zz=>?_);obtain⟨x,H1,I1,rx,a,C,dx,fs,v,ex,ea,c,n,l,q⟩:=zz;subst ex;obtain rfl:u=Value.ref a:=rx;exact og I1 ea c n l λu' s2 I2 ru=>⟨v,H1,I2,ru,q⟩
theorem yH (ha:PE X o ta) (hv:PE X value tv) (hs:swapsWith value (some (.Attribute o f pos')) pos.line X.env=pure false):PS X (.Assign [.Attribute o f pos'] value pos) (KN X.K ta tv f):=by
 intro pins s σ H D I h;refine plainObj_wpAny_Assign_Attribute (pD (hv pins s σ H _ I h) λu s1 ⟨y,H1,I1,ry,q⟩=>pD (ha pins s1 σ H1 _ I1 q) λov s2 zz=>?_) hs;obtain⟨x,H2,I2,rx,a,C,dx,fs,ex,ea,c,n,l,q2⟩:=zz;subst ex;obtain rfl:ov=Value.ref a:=rx;exact qg I2 ea c n l ry λs3 I3=>⟨σ,_,I3,q2⟩
end
section
variable {X:Cx} {pins:List (Addr×Obj)} {σ:St} {H:Hp} {s:Shared} {A:Around} {E:Value->Shared->Prop} {Q:Value->Shared->Prop} {c:Value} {b:Bool}
inductive ZE (K:PySem.W.Frag) (H:Hp):V->Value->Prop where
 |non:ZE K H .non (.type "NoneType")
 |bl (x:Bool):ZE K H (.bl x) (.type "bool")
 |int (i:Int):ZE K H (.int i) (.type "int")
 |str (x:Str):ZE K H (.str x) (.type "str")
 |flt (x:UInt64):ZE K H (.flt x) (.type "float")
 |lst {a:Addr} {xs:List V} (e:H a=some (.lst xs)):ZE K H (.ref a) (.type "list")
 |frz {a:Addr} {o:Obj} {xs:List V} (e:H a=some (.frz o (.lst xs))):ZE K H (.ref a) (.type "list")
 |tup {a:Addr} {xs:List V} (e:H a=some (.tup xs)):ZE K H (.ref a) (.type "tuple")
 |dK {a:Addr} {kvs:List (Key×V)} (e:H a=some (.dK kvs)):ZE K H (.ref a) (.type "dict")
 |dT {a:Addr} {kvs:List (List Key×V)} (e:H a=some (.dT kvs)):ZE K H (.ref a) (.type "dict")
 |ins {a C dx:Addr} {fs:List (Str×V)} (e:H a=some (.ins C dx fs)) (cl:BG K C) (ha:PySem.W.findIn K (.ref C) "__class__"=some (some (.builtin "object.__class__")))
  (hn:PySem.W.specialIn K (.builtin "object.__class__") "__get__"=some (some (.builtin "getset_descriptor.__get__"))) (htk:PySem.W.takesIn K (.builtin "object.__class__")=some true)
  (hm:PySem.W.mroIn K C (.type "object")=some true):ZE K H (.ref a) (.ref C)
theorem sg {x:V} {u t:Value} (I:wC X pins σ H s) (rx:FC x u) (ty:ZE X.K H x t) (e:PySem.W.kitOne X.K t c=some b) (h:∀tk,Q (.bool b) {s with toks:=tk}):
  wpAny (model X.prog X.w) A (call (.builtin "isinstance") [u,c]) Q E s:=by
 cases ty with
 |non=>cases (show u=Value.none from rx);exact PySem.W.kia_one PySem.W.kitx_none I.kIn True.intro e (λz=>nomatch z) h
 |bl y=>cases (show u=Value.bool y from rx);exact PySem.W.kia_one PySem.W.kitx_bool I.kIn True.intro e (λz=>nomatch z) h
 |int i=>obtain⟨t,q⟩:=(show ∃t,u=Value.int i t from rx);cases q;exact PySem.W.kia_one PySem.W.kitx_int I.kIn True.intro e (λz=>nomatch z) h
 |str y=>obtain⟨t,q⟩:=(show ∃t,u=Value.str y t from rx);cases q;exact PySem.W.kia_one PySem.W.kitx_str I.kIn True.intro e (λz=>nomatch z) h
 |flt y=>obtain⟨t,q⟩:=(show ∃t,u=Value.float y t from rx);cases q;exact PySem.W.kia_one PySem.W.kitx_float I.kIn True.intro e (λz=>nomatch z) h
 |@lst a xs ea=>
  cases (show u=Value.ref a from rx);obtain⟨_,_,n,_,h1⟩:=(show iD X.prog X.w H s.heap a (.lst xs) from I.hok a _ ea)
  exact PySem.W.kia_one PySem.W.kitx_list I.kIn ⟨_,h1,rfl⟩ e (λz=>nomatch z) h
 |@frz a ob xs ea=>
  cases (show u=Value.ref a from rx);obtain⟨_,_,_,n,_,h1⟩:=(show iD X.prog X.w H s.heap a (.frz ob (.lst xs)) from I.hok a _ ea)
  exact PySem.W.kia_one PySem.W.kitx_list I.kIn ⟨_,h1,rfl⟩ e (λz=>nomatch z) h
 |@tup a xs ea=>
  cases (show u=Value.ref a from rx);obtain⟨_,_,_,p⟩:=(show iD X.prog X.w H s.heap a (.tup xs) from I.hok a _ ea)
  obtain⟨o,h1,h2,_⟩:=p;exact PySem.W.kia_one PySem.W.kitx_tuple I.kIn ⟨o,h1,h2⟩ e (λz=>nomatch z) h
 |@dK a kvs ea=>
  cases (show u=Value.ref a from rx);obtain⟨_,_,vs,_,p⟩:=(show iD X.prog X.w H s.heap a (.dK kvs) from I.hok a _ ea)
  obtain⟨o,es,ep,h1,h2,_⟩:=p;exact PySem.W.kia_one PySem.W.kitx_dict I.kIn ⟨o,h1,h2.1⟩ e (λz=>nomatch z) h
 |@dT a kvs ea=>
  cases (show u=Value.ref a from rx);obtain⟨_,_,xs,_,o,es,ep,h1,h2,_⟩:=(show iD X.prog X.w H s.heap a (.dT kvs) from I.hok a _ ea)
  exact PySem.W.kia_one PySem.W.kitx_dict I.kIn ⟨o,h1,h2.1⟩ e (λz=>nomatch z) h
 |@ins a C dx fs ea cl ha hn htk hm=>
  cases (show u=Value.ref a from rx);obtain⟨mA,O,_⟩:=FR I.hok ea;obtain⟨od,J,_⟩:=O.look;exact PySem.W.kia_one (PySem.W.kitx_own (cl.get _) cl.hd ha hn htk hm) I.kIn J e (λz=>nomatch z) h
end
end L2
namespace L2
open PySem PySem.Spec PyProof.Rows
structure PD (k:Nat) (A:Around):Prop where
 hd:A.handled=none
 dp:A.depth+3 * k+5 < recursionLimit
 un:A.units+16 * k+200 < cLine
theorem PD.mono {j k:Nat} {A:Around} (r:PD k A) (h:j<=k):PD j A:=⟨r.hd,by have:=r.dp;omega,by have:=r.un;omega⟩
theorem PD.deeper {k:Nat} {A:Around} (r:PD (k+1) A) (env:Env):PD k (A.deeper env):=
 ⟨r.hd,by have:=r.dp;show A.depth+1+3 * k+5 < _;omega,by have:=r.un;show A.units+3+16 * k+200 < _;omega⟩
theorem ug {A:Around} {C:Addr} {us:List Value} {kw:List (Str×Value)}:(A.under (.builtin "type.__call__" ⟨.ref C::us,kw⟩)).depth=A.depth+1:=by
 first|rfl|simp[Around.under,Code.weight,Code.isCreation,Code.isGuard,Code.isCaller,Code.frames,Code.isFrame,guardIds]
theorem vg {A:Around} {C:Addr} {us:List Value} {kw:List (Str×Value)}:(A.under (.builtin "type.__call__" ⟨.ref C::us,kw⟩)).units=A.units+1:=by
 first|rfl|simp[Around.under,Code.cUnits,Code.frames,Code.isFrame]
theorem PD.make {k:Nat} {A:Around} (r:PD (k+1) A) (C:Addr) (us:List Value) (kw:List (Str×Value)):PD k (A.under (.builtin "type.__call__" ⟨.ref C::us,kw⟩)):=
 ⟨r.hd,by have:=r.dp;rw[ug];omega,by have:=r.un;rw[vg];omega⟩
theorem PD.depth {k:Nat} {A:Around} (r:PD k A):A.depth < recursionLimit:=by have:=r.dp;omega
theorem PD.units {k:Nat} {A:Around} (r:PD k A):A.units+64 < cLine:=by have:=r.un;omega
noncomputable def tNil:TA:=λο H Q=>Q [] H
noncomputable def oJ (ta:TE) (tr:TA):TA:=λσ H Q=>ta σ H λx H1=>tr σ H1 λxs H2=>Q (x::xs) H2
section
variable {X:Cx} {e:Expr} {es:List Expr} {te:TE} {t:TA} {pos:Pos}
theorem uC:PA X [] tNil:=λο ο ο ο H Q I h=>Calls.spliced_nil ⟨[],H,I,.nil,h⟩
theorem pC (ha:PE X e te) (hr:PA X es t) (hs:starEach (e::es) X.env=(false,eval e X.env)::starEach es X.env:=by rfl):PA X (e::es) (oJ te t):=by
 intro pos pins s σ H Q I h;rw[hs];show wpAny _ _ (spliced ((false,eval e X.env)::backTo pos (starEach es X.env))) _ _ s;refine Calls.spliced_cons (pD (ha pins s σ H _ I h) λu s1 zz=>?_);obtain⟨x,H1,I1,r1,q1⟩:=zz;exact pD (hr pos pins s1 σ H1 _ I1 q1) λus s2 ⟨xs,H2,I2,r2,q2⟩=>⟨x::xs,H2,I2,.cons r1 r2,q2⟩
noncomputable def LN (t:TA):TE:=λσ H Q=>t σ H λxs H1=>xs.length<=sizeLine/\∀p,H1 p=none->Q (.ref p) (yC H1 p (.tup xs))
noncomputable def MN (t:TA):TE:=λσ H Q=>t σ H λxs H1=>xs.length<=sizeLine/\∀p,H1 p=none->Q (.ref p) (yC H1 p (.lst xs))
theorem YD {x1} (h:PA X es t):PE X (.Tuple es x1 pos) (LN t):=by
 intro pins s σ H Q I hq;refine wpAny_Tuple_spliced (pD (h pos pins s σ H _ I hq) λus s1 ⟨xs,H1,I1,r,z,q⟩=>⟨by rw[<-r.length];exact z,?_⟩);have hf:H1 s1.heap.objs.size=none:=I1.hok.fresh (iA _);refine⟨.ref s1.heap.objs.size,yC H1 s1.heap.objs.size (.tup xs),I1.laid (t':=s1.toks) (λb u e=>CA _ e) (iA _) ?_,rfl,q _ hf⟩;exact⟨z,us,r,⟨_,XA _ rfl,rfl,_,rfl⟩⟩
theorem zH (h:PA X es t):PE X (.List es pos) (MN t):=by
 intro pins s σ H Q I hq;refine wpAny_List_spliced (pD (h pos pins s σ H _ I hq) λus s1 ⟨xs,H1,I1,r,z,q⟩=>⟨by rw[<-r.length];exact z,?_⟩);have hf:H1 s1.heap.objs.size=none:=I1.hok.fresh (iA _);refine⟨.ref s1.heap.objs.size,yC H1 s1.heap.objs.size (.lst xs),I1.laid (t':=s1.toks) (λb u e=>CA _ e) (iA _) ?_,rfl,q _ hf⟩;exact⟨z,us,0,r,XA _ rfl⟩
end
noncomputable abbrev Sp:=List V->Hp->VK->XK->Prop
noncomputable abbrev CXT:=List Env->Hp->Shared->XK->Value->Shared->Prop
structure fG (P:Program) (w:World) (K:PySem.W.Frag) (mg:Str->Option Value) (base:Heap) (A:Around) (outer:List Env) (s:Shared) (H:Hp):Prop where
 frames:A.frames=some outer
 mod:Mod K mg base
 bs:∀b o,base.get? b=some o->s.heap.get? b=some o/\H b=none
 bsz:base.objs.size<=s.heap.objs.size
 funs:s.heap.FunFrames base outer
 frf:∀b∈VD outer,H b=none
 hok:wE P w H s.heap
 bare:AllBare s.gens
noncomputable def CE (outer:List Env) (P:Program) (w:World) (H:Hp) (s:Shared) (Q:VK) (u:Value) (s':Shared):Prop:=
 ∃v H',s'.os=s.os/\AllBare s'.gens/\Un (VD outer) [] H H' s.heap s'.heap/\wE P w H' s'.heap/\FC v u/\Q v H'
noncomputable def CR (CX:CXT) (outer:List Env) (P:Program) (w:World) (H:Hp) (s:Shared) (Q:VK) (E:XK) (r:Result) (s':Shared):Prop:=
 match r with
 |.ok (.ret u)=>CE outer P w H s Q u s'
 |.ok _=>False
 |.error e=>CX outer H s E e s'
structure QE (P:Program) (w:World) (K:PySem.W.Frag) (mg:Str->Option Value) (base:Heap) (CX:CXT) (k:Nat) (f:Addr) (fd:FuncData) (ps:List Str) (sp:Sp):Prop where
 len:∀vs H Q E,sp vs H Q E->vs.length=ps.length
 run:∀(A:Around) (outer:List Env) (s:Shared) (H:Hp) (args:Args) (us:List Value) (vs:List V) (Q:VK) (E:XK),PD k A->fG P w K mg base A outer s H->BindsTo s fd args (ps.zip us)->GC vs us->sp vs H Q E->
  codeAny (model P w) A (.call (.ref f) args) (CR CX outer P w H s Q E) s
theorem QE.mono {P:Program} {w:World} {K:PySem.W.Frag} {mg:Str->Option Value} {base:Heap} {CX:CXT} {j k:Nat} {f:Addr} {fd:FuncData} {ps:List Str} {sp:Sp} (F:QE P w K mg base CX j f fd ps sp) (h:j<=k):
 QE P w K mg base CX k f fd ps sp:=⟨F.len,λA outer s H args us vs Q E hr=>F.run A outer s H args us vs Q E (hr.mono h)⟩
theorem fG.make {P:Program} {w:World} {K:PySem.W.Frag} {mg:Str->Option Value} {base:Heap} {A:Around} {outer:List Env} {s:Shared} {H:Hp} (e:fG P w K mg base A outer s H) (C:Addr) (us:List Value) (kw:List (Str×Value)):
 fG P w K mg base (A.under (.builtin "type.__call__" ⟨.ref C::us,kw⟩)) outer s H:=⟨by first|exact e.frames|(simpa[Around.under,Code.envs,Code.isFrame,pushEnvs] using e.frames),e.mod,e.bs,e.bsz,e.funs,e.frf,e.hok,e.bare⟩
section
variable {X:Cx} {pins:List (Addr×Obj)} {σ:St} {H:Hp} {s s':Shared}
theorem wC.env0 (I:wC X pins σ H s):fG X.prog X.w X.K X.mg X.base X.A X.stack s H:=
 ⟨I.ok.frames,I.ok.mod,I.bs,YA I.ok.bsz I.sz,I.stack,I.stkFree,I.hok,I.bare⟩
theorem wC.after {Q:VK} {u:Value} (I:wC X pins σ H s) (h:CE X.stack X.prog X.w H s Q u s'):EP X pins σ Q u s':=by
 obtain⟨v,H',os,bare,un,hok,r,q⟩:=h;obtain⟨hh,g,d,t,os'⟩:=s';obtain rfl:os'=s.os:=os;exact⟨v,H',I.call (h':=hh) (g':=g) (d':=d) (t':=t) (ch:=[]) un hok bare (λb z=>absurd z (by simp)),r,q⟩
end
noncomputable def bE (K:PySem.W.Frag) (fd:FuncData) (ps:List Str) (ds:List Value):Prop:=
 ∀(s:Shared) (us:List Value),K.In s.heap->(us++ds).length=ps.length->BindsTo s fd ⟨us,[]⟩ (ps.zip (us++ds))
theorem bE.all {K:PySem.W.Frag} {fd:FuncData} {ps:List Str} (h:∀us:List Value,us.length=ps.length->bindArgs fd ⟨us,[]⟩=pure (ps.zip us)):bE K fd ps []:=λs us ο hl=>by
 rw[IB] at hl ⊢;exact .of_eq (h us hl)
section
variable {X:Cx} {CX:CXT} {k:Nat} {f C:Addr} {fd:FuncData} {ps:List Str} {sp:Sp} {dvs:List V} {ds:List Value} {E:XK} {x m:Str} {p pos apos:Pos} {e o:Expr} {es:List Expr} {ta:TE} {t:TA}
structure Mk (K:PySem.W.Frag) (C f:Addr):Prop where
 makes:PySem.W.makesIn K C=true
 init:PySem.W.findIn K (.ref C) "__init__"=some (some (.ref f))
 fn:PySem.W.isFn K (.ref f)=true
 kp:PySem.W.keepIn K (.ref C)=true
end
section
variable {X:Cx} {CX:CXT} {k:Nat} {f C:Addr} {fd:FuncData} {ps ks:List Str} {sp:Sp} {E:XK} {x m:Str} {p pos apos kpos:Pos} {e o:Expr} {es:List Expr} {kws:List Keyword} {te ta:TE} {t tk:TA} {nm:Option Str}
variable {g:List Value->List Value->List Value} {gV:List V->List V->List V}
end
structure qC (N P:List Str) (sc:Scope):Prop where
 kind:sc.kind=.function
 co:sc.isCoroutine=false
 gen:sc.isGenerator=false
 nd:N.Nodup
 pre:N.take P.length=P
 par:∀x∈P,sc.names.lookup x=some .local\/sc.names.lookup x=some .cell
 nofree:∀y∈sc.names,y.2≠.free
theorem n4 {kindOf:Str->Option NameKind} {x:Str}:∀{binds:List (Str×Value)} {m:Str->Option Value},(∀v,(x,v)∉binds)->bindL kindOf binds m x=m x
 |[],_,_=>rfl
 |(n,v)::r,m,h=>by
  unfold bindL;rw[n4 λw hw=>h w (fA _ hw)]
  split
  ·have:x≠n:=by rintro rfl;exact h v cA
   simp[this]
  ·rfl
theorem t4 {kindOf:Str->Option NameKind} {x:Str}:∀{binds:List (Str×Value)} {m:Str->Option Value},(∀v,(x,v)∉binds)->bindC kindOf binds m x=m x
 |[],_,_=>rfl
 |(n,v)::r,m,h=>by
  unfold bindC;rw[t4 λw hw=>h w (fA _ hw)]
  split
  ·rfl
  ·have:x≠n:=by rintro rfl;exact h v cA
   simp[this]
theorem u4 {kindOf:Str->Option NameKind} {x:Str} {v:Value}:∀{P:List Str} {vs:List Value} {i:Nat} {m:Str->Option Value},P.Nodup->P[i]?=some x->vs[i]?=some v->kindOf x=some .local->
  bindL kindOf (P.zip vs) m x=some v
 |[],_,_,_,_,h,_,_=>by simp at h
 |_::_,[],_,_,_,_,h,_=>by simp at h
 |p::P,w::vs,0,m,nd,h1,h2,hk=>by
  simp at h1 h2;subst h1;subst h2;show bindL kindOf ((p,w)::P.zip vs) m p=_;unfold bindL;rw[n4 λv hv=>(qB.mp nd).1 (List.of_mem_zip hv).1,bA hk];simp
 |p::P,w::vs,i+1,m,nd,h1,h2,hk=>by
  show bindL kindOf ((p,w)::P.zip vs) m x=_;unfold bindL;exact u4 (i:=i) (qB.mp nd).2 (by simpa using h1) (by simpa using h2) hk
theorem w4 {kindOf:Str->Option NameKind} {x:Str} {v:Value}:∀{P:List Str} {vs:List Value} {i:Nat} {m:Str->Option Value},P.Nodup->P[i]?=some x->vs[i]?=some v->kindOf x≠some .local->
  bindC kindOf (P.zip vs) m x=some v
 |[],_,_,_,_,h,_,_=>by simp at h
 |_::_,[],_,_,_,_,h,_=>by simp at h
 |p::P,w::vs,0,m,nd,h1,h2,hk=>by
  simp at h1 h2;subst h1;subst h2;show bindC kindOf ((p,w)::P.zip vs) m p=_;unfold bindC;rw[t4 λv hv=>(qB.mp nd).1 (List.of_mem_zip hv).1,aA hk];simp
 |p::P,w::vs,i+1,m,nd,h1,h2,hk=>by
  show bindC kindOf ((p,w)::P.zip vs) m x=_;unfold bindC;exact w4 (i:=i) (qB.mp nd).2 (by simpa using h1) (by simpa using h2) hk
noncomputable def fE (N:List Str) (vs:List V):St:=vs.map some++List.replicate (N.length - vs.length) none
noncomputable def iE (CX:CXT) (P:Program) (w:World) (K:PySem.W.Frag) (mg:Str->Option Value) (base:Heap) (N:List Str) (qual:Str) (scope:Scope) (f:Addr) (cd:Value) (A:Around) (outer:List Env) (s:Shared) (H:Hp) (E:XK):Cx where
 prog:=P
 w:=w
 K:=K
 mg:=mg
 base:=base
 A:=A.deeper (envOfC qual scope s.heap.objs.size f cd)
 N:=N
 s₀:=s
 H₀:=H
 env:=envOfC qual scope s.heap.objs.size f cd
 outer:=outer
 stack:=envOfC qual scope s.heap.objs.size f cd::outer
 ex:=[]
 calm:=true
 fn:=λο=>true
 pn:=[]
 xe:=λe s'=>wpAny (model P w) (A.deeper (envOfC qual scope s.heap.objs.size f cd)) (leaving (envOfC qual scope s.heap.objs.size f cd) e) (λο s''=>CX outer H s E e s'') (λe' s''=>CX outer H s E e' s'') s'
theorem y4 {sc:Scope} {n:Nat} {x:Str} (h:sc.names.lookup x=some .cell):∃c,(cellsFrom n sc.names []).lookup x=some c:=by
 have q:=PySem.W.cellsFrom_some sc.names n [] (.inl h);exact Option.isSome_iff_exists.mp q
theorem S4 {CX:CXT} {P:Program} {w:World} {K:PySem.W.Frag} {mg:Str->Option Value} {base:Heap} {N ps:List Str} {qual:Str} {scope:Scope} {f:Addr} {cd:Value} {A:Around} {outer:List Env} {s s1:Shared} {H:Hp} {E:XK} {us:List Value} {vs:List V}
  (S:qC N ps scope) (hd:A.handled=none) (e0:fG P w K mg base A outer s H) (hl:vs.length=ps.length) (r:GC vs us)
  (x:InCallC s s.heap.objs.size (bindL (envOfC qual scope s.heap.objs.size f cd).kindOf (ps.zip us) λο=>none) (cellsFrom (s.heap.objs.size+1) scope.names []) (bindC (envOfC qual scope s.heap.objs.size f cd).kindOf (ps.zip us) λο=>none) s1):
  wC (iE CX P w K mg base N qual scope f cd A outer s H E) [] (fE N vs) H s1:=by
 have hpl:ps.length<=N.length:=by have:=congrArg List.length S.pre;rw[NA] at this;omega
 obtain⟨h1,tk,rfl,hk⟩:=x.done;have noA:∀b:Addr,b∉(iE CX P w K mg base N qual scope f cd A outer s H E).ex:=λb z=>absurd (show b∈([]:List Addr) from z) (by simp);refine⟨⟨e0.mod,S.kind,rfl,rfl,iA _,λy z c h1 h2=>?_,λy hy=>?_,λy c ο h=>?_,λο=>hd,Around.frames_deeper e0.frames,.inr ⟨rfl,rfl⟩,λb z=>absurd z (noA b),e0.bs,e0.bsz,λb ο ο=>noA b,λb z=>absurd z (noA b),e0.funs,e0.frf⟩,
  rfl,e0.bare,Un.kept hk,⟨_,x.toInCall.ns,λi y v h1 h2 h3=>?_⟩,λy c h=>⟨_,x.cell y c h⟩,e0.hok.fresh (iA _),λy c h=>?_,λp hp=>absurd (show p∈([]:List (Addr×Obj)) from hp) (by simp),e0.hok.kept hk,?_⟩
 ·exact name_of_addr x.apart (PySem.mem_of_lookup h1) (PySem.mem_of_lookup h2)
 ·have hy:scope.names.lookup y=some .cell\/scope.names.lookup y=some .free:=hy;rcases hy with hy|hy
  ·exact y4 hy
  ·exact absurd rfl (S.nofree _ (PySem.mem_of_lookup hy))
 ·exact Nat.le_of_lt (x.above y c (PySem.mem_of_lookup h))
 ·have hi:i < vs.length:=by
   unfold fE at h2;by_cases hi:i < vs.length
   ·exact hi
   ·rw[SA (by simpa using hi)] at h2;rw[List.getElem?_replicate] at h2
    split at h2<;>cases h2
  have ha:vs[i]?=some v:=by
   unfold fE at h2;rw[List.getElem?_append_left (by simpa using hi),UA] at h2;cases e:vs[i]? with
   |none=>rw[e] at h2;cases h2
   |some a=>rw[e] at h2;cases h2;rfl
  obtain⟨u,hu,rv⟩:=r.get ha;have hp:ps[i]?=some y:=by
   rw[<-S.pre,List.getElem?_take_of_lt ⋯];exact h1
  have ndP:ps.Nodup:=by rw[<-S.pre];exact S.nd.sublist (jC _ _)
  refine⟨u,rv,?_⟩;rcases S.par y (fB hp) with k|k
  ·exact .inl ⟨k,u4 ndP hp hu k⟩
  ·obtain⟨c,e⟩:=y4 (n:=s.heap.objs.size+1) k;refine .inr ⟨.inl k,c,e,?_⟩;have q:=x.cell y c e;rw[w4 ndP hp hu (by show scope.names.lookup y≠_;rw[k];decide)] at q;exact q
 ·exact e0.hok.fresh (Nat.le_of_lt (x.above y c (PySem.mem_of_lookup h)))
 ·unfold fE;show _=N.length;rw[qA,dA,List.length_replicate];omega
theorem IT {CX:CXT} {P:Program} {w:World} {K:PySem.W.Frag} {mg:Str->Option Value} {base:Heap} {k:Nat} {f:Addr} {name qual:Str} {params:Arguments} {body:List Stmt} {scope:Scope} {dV kV doc pm cdv ct oc:Value} {an od:Option Addr}
  {osl:Array (Option Value)} {N ps:List Str} {sp:Sp} (lk:K.lookup f=some ⟨oc,od,.func (PySem.W.fnOf name qual params body scope dV kV doc pm an cdv ct),osl⟩) (hcd:PySem.W.codeIn K cdv qual=true) (S:qC N ps scope)
  (len:∀vs H Q E,sp vs H Q E->vs.length=ps.length)
  (hbody:∀(A:Around) (outer:List Env) (s:Shared) (H:Hp) (vs:List V) (Q:VK) (E:XK),PD k (A.deeper (envOfC qual scope s.heap.objs.size f cdv))->sp vs H Q E->
   ∃t,TF (iE CX P w K mg base N qual scope f cdv A outer s H E) body t/\t {nx:=λο H'=>Q .non H',rt:=Q} (fE N vs) H):
  QE P w K mg base CX (k+1) f (PySem.W.fnOf name qual params body scope dV kV doc pm an cdv ct) ps sp:=by
 refine⟨len,λA outer s H args us vs Q E hr e0 hb r hsp=>?_⟩;have hl:=len _ _ _ _ hsp;have KX:K.In s.heap:=e0.mod.kin.keeps λb o e=>(e0.bs b o e).1;have lim:s.heap.NoLimit:=e0.mod.nolimit.keeps λb o e=>(e0.bs b o e).1;have hkind:∀y∈ps.zip us,scope.names.lookup y.1=some .local\/(scope.names.lookup y.1=some .cell/\((cellsFrom (s.heap.objs.size+1) scope.names []).lookup y.1).isSome=true):=λ⟨n,v⟩ hy=>by
  rcases S.par n (List.of_mem_zip hy).1 with q|q
  ·exact .inl q
  ·exact .inr ⟨q,PySem.W.cellsFrom_some _ _ _ (.inl q)⟩
 refine codeAny_call_function hr.depth (KX _ _ lk) rfl S.co S.gen rfl (PySem.W.codeRec_of KX hcd) (hb _ _ _ _ ?_);refine wpAny_newFunctionEnv_cells S.kind hkind λenv he s1 x=>?_;subst he;refine⟨lim.keeps x.toInCall.keep,codeAny_func ?_⟩;obtain⟨t,ht,hq⟩:=hbody A outer s H vs Q E (hr.deeper _) hsp;have I:wC (iE CX P w K mg base N qual scope f cdv A outer s H E) [] (fE N vs) H s1:=S4 S hr.hd e0 hl r x;refine rB (ht [] s1 (fE N vs) H _ I hq) (λfl s' hs=>?_) λe s' hs=>hs;have fin:∀{σ':St} {H':Hp} {v:V} {u:Value},wC (iE CX P w K mg base N qual scope f cdv A outer s H E) [] σ' H' s'->FC v u->Q v H'->CE outer P w H s Q u s':=
  λ{σ' H' v u} J rv q=>⟨v,H',J.os,J.bare,J.base,J.hok,rv,q⟩
 cases fl with
 |ret u=>
  obtain⟨v,σ',H',J,rv,q⟩:=hs;exact fin J rv q
 |next=>
  obtain⟨σ',H',J,q⟩:=hs;exact fin (v:=V.non) (u:=Value.none) J rfl q
 |brk=>
  obtain⟨_,_,_,q⟩:=hs;exact False.elim q
 |cont=>
  obtain⟨_,_,_,q⟩:=hs;exact False.elim q
end L2
namespace L2
open PySem PySem.Spec PyProof.Rows
section
variable {X:Cx} {x:Str} {p pos:Pos} {e:Expr} {es:List Expr} {t:TA} {id T:String} {r:List V->Hp->VK->Prop}
noncomputable def JT (r:List V->Hp->VK->Prop) (t:TA):TE:=λσ H Q=>t σ H λvs H1=>r vs H1 Q
theorem SD (hc:lE X (.builtin id) r) (hg:Gl X x) (hm:X.mg x=none) (hv:bootBuiltins x=some (.builtin id)) (ha:PA X (e::es) t) (hn:x≠"__name__":=by decide) (hdb:(x == ("__debug__":Str))=false:=by decide)
  (he:starEach (e::es) X.env=(false,eval e X.env)::starEach es X.env:=by rfl) (hpl:(backTo pos (starEach es X.env)).any (·.1)=false:=by rfl):PE X (.Call (.Name x p) (e::es) [] pos) (JT r t):=by
 intro pins s σ H Q I h;refine gC (AR I hg hm hv ?_ hn hdb);exact PyProof.Rows.callWith_builtin1 (pD (ha pos pins s σ H _ I h) λus s1 ⟨vs,H1,I1,r1,q1⟩=>hc pins s1 σ H1 vs us Q I1 r1 q1) he hpl
theorem MT (hc:lE X (.type T) r) (hg:Gl X x) (hm:X.mg x=none) (hv:bootBuiltins x=some (.type T)) (ha:PA X (e::es) t) (hn:x≠"__name__":=by decide) (hdb:(x == ("__debug__":Str))=false:=by decide)
  (he:starEach (e::es) X.env=(false,eval e X.env)::starEach es X.env:=by rfl) (hpl:(backTo pos (starEach es X.env)).any (·.1)=false:=by rfl):PE X (.Call (.Name x p) (e::es) [] pos) (JT r t):=by
 intro pins s σ H Q I h;refine gC (AR I hg hm hv ?_ hn hdb);exact PyProof.Rows.callWith_type1 (pD (ha pos pins s σ H _ I h) λus s1 ⟨vs,H1,I1,r1,q1⟩=>hc pins s1 σ H1 vs us Q I1 r1 q1) he hpl
end
end L2
namespace HT
open PySem PyProof.Rows
section
open PySem.SeqAt
open PySem.AutoSeq1 (wpAny_loadPart')
open PySem.MeetsSeq PySem.MeetsSeq2 PySem.MeetsSeq3
end
section
variable {prog:Program} {w:World} {A:Around} {E:Value->Shared->Prop} {s:Shared}
noncomputable def KG (n d:Nat):Option Int->Nat
 |none=>d
 |some v=>if v < 0 then (v+(n:Int)).toNat else min v.toNat n
end
end HT
namespace L2
open PySem PySem.Spec PyProof.Rows
noncomputable abbrev TO:=St->Hp->(Option Int->Hp->Prop)->Prop
noncomputable def PO (X:Cx) (e:Option Expr) (t:TO):Prop:=
 ∀(pins:List (Addr×Obj)) (s:Shared) (σ:St) (H:Hp) (Q:Option Int->Hp->Prop),wC X pins σ H s->t σ H Q->
  wpAny (model X.prog X.w) X.A (evalPart e X.env) (λu s'=>∃o H',wC X pins σ H' s'/\IsPart u o/\Q o H') X.xe s
noncomputable def tNoPart:TO:=λο H Q=>Q none H
noncomputable def pJ (t:TE):TO:=λσ H Q=>t σ H λx H1=>∃i,x=.int i/\Q (some i) H1
section
variable {X:Cx} {e:Expr} {te:TE} {lo hi:Option Expr} {tl th:TO} {pos p2:Pos}
theorem NT:PO X none tNoPart:=by
 intro pins s σ H Q I h;rw[evalPart_none];exact OA ⟨none,H,I,.none,h⟩
theorem LI (h:PE X e te):PO X (some e) (pJ te):=by
 intro pins s σ H Q I hw;rw[evalPart_some];refine pD (h pins s σ H _ I hw) λu s1 zz=>?_;obtain⟨x,H1,I1,r1,q1⟩:=zz;obtain⟨i,rfl,q⟩:=q1;obtain⟨t,rfl⟩:=r1;exact⟨some i,H1,I1,.int i t,q⟩
noncomputable def T4 (X:Cx) (r:V->Option Int->Option Int->Hp->VK->Prop):Prop:=
 ∀(pins:List (Addr×Obj)) (s:Shared) (σ:St) (H:Hp) (x:V) (v vl vu:Value) (lo hi:Option Int) (sl:Addr) (Q:VK),wC X pins σ H s->FC x v->s.heap.IsSliceOf sl vl vu .none->IsPart vl lo->IsPart vu hi->r x lo hi H Q->
  ∃T id,typeLookup (.type T) "__getitem__"=pure (some (.builtin id))/\s.TypeIs v T/\wpAny (model X.prog X.w) X.A (getItem v (.ref sl)) (EP X pins σ Q) X.xe s
noncomputable def U4 (r:V->Option Int->Option Int->Hp->VK->Prop) (te:TE) (tl th:TO):TE:=λσ H Q=>te σ H λx H1=>tl σ H1 λl H2=>th σ H2 λu H3=>r x l u H3 Q
theorem EM {r:V->Option Int->Option Int->Hp->VK->Prop} (hr:T4 X r) (he:PE X e te) (hl:PO X lo tl) (hu:PO X hi th):PE X (.Subscript e (.Slice lo hi none p2) pos) (U4 r te tl th):=by
 intro pins s σ H Q I h;refine Subscript_ (pD (he pins s σ H _ I h) λv s1 zz=>?_);obtain⟨x,H1,I1,r1,q1⟩:=zz;refine wpAny_Slice (pD (hl pins s1 σ H1 _ I1 q1) λvl s2 ⟨l,H2,I2,pl,q2⟩=>pD (hu pins s2 σ H2 _ I2 q2) λvu s3 zz=>?_);obtain⟨u,H3,I3,pu,q3⟩:=zz;rw[evalPart_none];refine OA ?_;have I4:wC X pins σ H3 {s3 with heap:=s3.heap.push {cls:=.type "slice",data:=.fields #[vl,vu,.none]}}:=I3.kept (t':=s3.toks) λb ob q=>CA _ q;obtain⟨T,id,hT,ht,hg⟩:=hr pins {s3 with heap:=s3.heap.push {cls:=.type "slice",data:=.fields #[vl,vu,.none]}} σ H3 x v vl vu l u s3.heap.objs.size Q I4 r1 (Heap.IsSliceOf.new ..) pl pu q3;show wpAny (model X.prog X.w) X.A (subscriptTail e (.Slice lo hi none p2) v (.ref s3.heap.objs.size)) (EP X pins σ Q) X.xe {s3 with heap:=s3.heap.push {cls:=.type "slice",data:=.fields #[vl,vu,.none]}};exact tail_any (ops:=[.ref s3.heap.objs.size,v]) ht hT hg (by with_unfolding_all rfl)
noncomputable def DE (xs:List V) (lo hi:Option Int):List V:=(xs.drop (HT.KG xs.length 0 lo)).take (HT.KG xs.length xs.length hi - HT.KG xs.length 0 lo)
theorem wg (xs:List V) (lo hi:Option Int):(DE xs lo hi).length<=xs.length:=by
 unfold DE;rw[NA,GB];omega
end
end L2
namespace L2
open PySem PySem.Spec PyProof.Rows
noncomputable def qJ (n:Nat) (i:Int):Option Nat:=if 0<=i then (if i < n then some i.toNat else none) else if -(n:Int)<=i then some (i+n).toNat else none
noncomputable def gH {α:Type} (xs:List α) (i:Int):Option α:=(qJ xs.length i).bind λj=>xs[j]?
theorem xg {n:Nat} {i:Int} {j:Nat} (h:qJ n i=some j):seqIndex? i n=some j/\j < n/\ -(n:Int)<=i/\i < n:=by
 unfold qJ at h;by_cases h0:0<=i
 ·rw[bA h0] at h;by_cases h1:i < n
  ·rw[bA h1] at h;have e:i.toNat=j:=FA h;exact⟨by rw[seqIndex_of h0 h1,e],⋯,⋯,h1⟩
  ·rw[aA h1] at h;cases h
 ·rw[aA h0] at h;by_cases h1: -(n:Int)<=i
  ·rw[bA h1] at h;have e:(i+n).toNat=j:=FA h;exact⟨by rw[seqIndex_neg ⋯ h1,e],⋯,h1,⋯⟩
  ·rw[aA h1] at h;cases h
theorem V4 {α:Type} {xs:List α} {i:Int} {v:α} (h:gH xs i=some v):∃j,seqIndex? i xs.length=some j/\xs[j]?=some v/\j < xs.length/\ -(xs.length:Int)<=i/\i < xs.length:=by
 unfold gH at h;cases e:qJ xs.length i with
 |none=>rw[e] at h;cases h
 |some j=>
  rw[e] at h;obtain⟨h1,h2,h3,h4⟩:=xg e;exact⟨j,h1,h,h2,h3,h4⟩
theorem JD {α:Type} {xs:List α} {j:Nat} {v:α} (h:xs[j]?=some v):gH xs (j:Int)=some v:=by
 have hj:j < xs.length:=(LA.mp h).1;have e:qJ xs.length (j:Int)=some j:=by
  unfold qJ;rw[bA ⋯,bA ⋯];simp
 unfold gH;rw[e];exact h
noncomputable def NI (b:Expr):Prop:=∀o i,subscripted b false o i=operate [o,i] (getItem o i)
noncomputable def tI (X:Cx) (r:R2):Prop:=
 ∀(value slice:Expr) (pins:List (Addr×Obj)) (s:Shared) (σ:St) (H:Hp) (x y:V) (v u:Value) (Q:VK),wC X pins σ H s->FC x v->FC y u->r x y H Q->
  subscripted slice false v u=operate [v,u] (getItem v u)->wpAny (model X.prog X.w) X.A (subscriptTail value slice v u) (EP X pins σ Q) X.xe s
noncomputable def W4 (X:Cx) (id:String) (r:V->List V->Hp->VK->Prop):Prop:=
 ∀(pins:List (Addr×Obj)) (s:Shared) (σ:St) (H:Hp) (x:V) (xs:List V) (v:Value) (us:List Value) (Q:VK),wC X pins σ H s->FC x v->GC xs us->r x xs H Q->
  wpAny (model X.prog X.w) X.A (call (.builtin id) (v::us)) (EP X pins σ Q) X.xe s
section
variable {X:Cx} {a b:Expr} {ta tb:TE} {pos:Pos}
theorem tI.or {r r':R2} (h:tI X r) (h':tI X r'):tI X (λx y H Q=>r x y H Q\/r' x y H Q):=by
 intro value slice pins s σ H x y v u Q I rx ry q hs;rcases q with q|q
 ·exact h value slice pins s σ H x y v u Q I rx ry q hs
 ·exact h' value slice pins s σ H x y v u Q I rx ry q hs
theorem MC {r:R2} (hr:tI X r) (ha:PE X a ta) (hb:PE X b tb) (hs:NI b):PE X (.Subscript a b pos) (DN r ta tb):=by
 intro pins s σ H Q I h;exact Subscript_ (EK ha hb I h λv u s2 x y H2 I2 rx ry q=>hr a b pins s2 σ H2 x y v u Q I2 rx ry q (hs _ _))
noncomputable def LK (K:PySem.W.Frag):R2:=λx y H Q=>∃p xs i v,x=.ref p/\y=.int i/\aD K H p xs/\gH xs i=some v/\Q v H
noncomputable def OI (K:PySem.W.Frag):R2:=λx y H Q=>∃p xs i v,x=.ref p/\y=.int i/\OC K H p xs/\gH xs i=some v/\Q v H
theorem uI:tI X (LK X.K):=by
 intro value slice pins s σ H x y v u Q I rx ry h hs;obtain⟨p,xs,i,z,rfl,rfl,hq,he,q⟩:=h;cases rx;obtain⟨t,rfl⟩:=ry;obtain⟨its,r,pl,hz⟩:=I.list hq;obtain⟨j,h1,h2,h3,h4,h5⟩:=V4 he;obtain⟨w,ew,rw'⟩:=r.get h2;have hl:=r.length;have hn:=HG;have fin:EP X pins σ Q w s:=⟨z,H,I,rw',q⟩
 by_cases h0:0<=i
 ·have hj:i.toNat=j:=by
   rw[seqIndex_of h0 h5] at h1;exact FA h1
  exact item_listR pl.isList h0 ⋯ (by rw[hj];simpa using ew) fin hs
 ·have hj:(i+(its.toArray.size:Int)).toNat=j:=by
   rw[seqIndex_neg ⋯ h4] at h1;rw[VA,<-hl];exact FA h1
  exact subscriptTail_builtinR (x:=w) pl.isList.typeIs slot_list_getitem.lookup
   (wpAny_getItem_list_neg (Q:=λr s'=>r=w/\EP X pins σ Q r s') pl.isList ⋯ (by rw[VA]<;>omega) ⋯ (by rw[hj];simpa using ew) ⟨rfl,fin⟩) hs
theorem UC:tI X (OI X.K):=by
 intro value slice pins s σ H x y v u Q I rx ry h hs;obtain⟨p,xs,i,z,rfl,rfl,hq,he,q⟩:=h;cases rx;obtain⟨t,rfl⟩:=ry;obtain⟨its,r,pl,hz⟩:=I.tuple hq;obtain⟨j,h1,h2,h3,h4,h5⟩:=V4 he;obtain⟨w,ew,rw'⟩:=r.get h2;have hl:=r.length;have hn:=HG;have fin:EP X pins σ Q w s:=⟨z,H,I,rw',q⟩
 exact subscriptTail_builtinR (x:=w) pl.typeIs slot_tuple_getitem.lookup
  (getItem_tuple (j:=j) (Q:=λr s'=>r=w/\EP X pins σ Q r s') pl ⋯ ⋯ (by rw[VA,<-hl];exact h1) (by simpa using ew) ⟨rfl,fin⟩) hs
theorem wC.lst {pins:List (Addr×Obj)} {σ:St} {H:Hp} {s:Shared} {p:Addr} {xs:List V} (I:wC X pins σ H s) (h:H p=some (.lst xs)):
  ∃(its:List Value) (n:Nat),GC xs its/\s.heap.get? p=some {cls:=.type "list",data:=.seq its.toArray n}/\xs.length<=sizeLine:=by
 obtain⟨z,its,n,r,e⟩:=I.hok p _ h;exact⟨its,n,r,e,z⟩
theorem yg (lo hi:Option Int) (n:Nat):(sliceBounds lo hi none n).1=((HT.KG n 0 lo:Nat):Int)/\(sliceBounds lo hi none n).2.1=((HT.KG n n hi:Nat):Int)/\(sliceBounds lo hi none n).2.2=1:=by
 refine⟨?_,?_,rfl⟩
 ·cases lo with
  |none=>simp[sliceBounds,HT.KG]
  |some i=>
   simp only[sliceBounds,HT.KG,Option.getD_none,show (1:Int) > 0 by decide,PB];by_cases h:i < 0
   ·simp only[h,PB]<;>omega
   ·simp only[h,wB]<;>omega
 ·cases hi with
  |none=>simp[sliceBounds,HT.KG]
  |some i=>
   simp only[sliceBounds,HT.KG,Option.getD_none,show (1:Int) > 0 by decide,PB];by_cases h:i < 0
   ·simp only[h,PB]<;>omega
   ·simp only[h,wB]<;>omega
theorem zg (its:List Value) (lo hi:Option Int):slicePick its.toArray lo hi none=((its.drop (HT.KG its.length 0 lo)).take (HT.KG its.length its.length hi - HT.KG its.length 0 lo)).toArray:=by
 obtain⟨h1,h2,h3⟩:=yg lo hi its.toArray.size;unfold slicePick;rw[h1,h2,h3];simp only[sliceRange_one,pick_run,VA]<;>rfl
noncomputable def NN (K:PySem.W.Frag):V->Option Int->Option Int->Hp->VK->Prop:=λx lo hi H Q=>∃a xs,x=.ref a/\aD K H a xs/\∀p,H p=none->Q (.ref p) (yC H p (.lst (DE xs lo hi)))
theorem FM:T4 X (NN X.K):=by
 intro pins s σ H x v vl vu lo hi sl Q I rx hs pl pu h;obtain⟨a,xs,rfl,hx,q⟩:=h;cases rx;obtain⟨its,r,ht,hz⟩:=I.list hx;have hlen:=r.length;refine⟨"list",_,slot_list_getitem.lookup,ht.isList.typeIs,?_⟩;refine wpAny_getItem_list_slice ht.isList hs pl pu .none (by simp) ?_ (by rw[VA]<;>omega);rw[zg,<-hlen];refine⟨.ref s.heap.objs.size,_,I.laid (t':=s.toks) (o:=.lst (DE xs lo hi)) (λb ob q=>CA _ q) (iA _) ?_,rfl,q _ (I.hok.fresh (iA _))⟩;exact⟨YA (wg xs lo hi) hz,_,0,(r.drop (HT.KG xs.length 0 lo)).take (HT.KG xs.length xs.length hi - HT.KG xs.length 0 lo),XA _ rfl⟩
noncomputable def rG:V->Bool
 |.non=>true
 |.bl _=>true
 |.int _=>true
 |.str _=>true
 |_=>false
noncomputable def GM:V->V->Bool
 |.non,.non=>true
 |.bl a,.bl b=>a == b
 |.bl a,.int b=>(if a then 1 else 0) == b
 |.int a,.bl b=>a == (if b then 1 else 0)
 |.int a,.int b=>a == b
 |.str a,.str b=>a == b
 |_,_=>false
theorem MK {A:Around} {s:Shared} {y x:V} {u v:Value} (ry:FC y u) (rx:FC x v) (fy:rG y=true) (fx:rG x=true):SeqAt.EqAt A s u v (GM y x):=by
 cases y with
 |non=>
  cases ry;cases x with
  |non=>cases rx;exact SeqAt.EqAt.same _
  |bl b=>cases rx;exact SeqAt.EqAt.none_bool b
  |int b=>obtain⟨t,rfl⟩:=rx;exact SeqAt.EqAt.none_int b t
  |str b=>obtain⟨t,rfl⟩:=rx;exact SeqAt.EqAt.none_str b t
  |_=>exact absurd (show false=true from fx) nA
 |bl a=>
  cases ry;cases x with
  |non=>cases rx;exact SeqAt.EqAt.bool_none a
  |bl b=>cases rx;exact SeqAt.EqAt.bool_bool a b
  |int b=>obtain⟨t,rfl⟩:=rx;exact SeqAt.EqAt.bool_int a b t
  |str b=>obtain⟨t,rfl⟩:=rx;exact SeqAt.EqAt.bool_str a b t
  |_=>exact absurd (show false=true from fx) nA
 |int a=>
  obtain⟨t',rfl⟩:=ry;cases x with
  |non=>cases rx;exact SeqAt.EqAt.int_none a t'
  |bl b=>cases rx;exact SeqAt.EqAt.int_bool a t' b
  |int b=>obtain⟨t,rfl⟩:=rx;exact SeqAt.EqAt.int_int a t' b t
  |str b=>obtain⟨t,rfl⟩:=rx;exact SeqAt.EqAt.int_str a t' b t
  |_=>exact absurd (show false=true from fx) nA
 |str a=>
  obtain⟨t',rfl⟩:=ry;cases x with
  |non=>cases rx;exact SeqAt.EqAt.str_none a t'
  |bl b=>cases rx;exact SeqAt.EqAt.str_bool a t' b
  |int b=>obtain⟨t,rfl⟩:=rx;exact SeqAt.EqAt.str_int a t' b t
  |str b=>obtain⟨t,rfl⟩:=rx;exact SeqAt.EqAt.str_str a t' b t
  |_=>exact absurd (show false=true from fx) nA
 |_=>exact absurd (show false=true from fy) nA
theorem X4:lE X (.type "list") (λxs H Q=>∃p ys,xs=[.ref p]/\(aD X.K H p ys\/OC X.K H p ys)/\∀l,H l=none->Q (.ref l) (yC H l (.lst ys))):=by
 intro pins s σ H xs us Q I r h;obtain⟨p,ys,rfl,hq,q⟩:=h;obtain⟨u,rfl,rx⟩:=BF r;cases rx;have fin:∀(its:List Value),GC ys its->ys.length<=sizeLine->∀(h':Heap) (c':Nat),(∀b o',s.heap.get? b=some o'->h'.get? b=some o')->
   h'.get? s.heap.objs.size=some {cls:=.type "list",dict:=none,data:=.seq its.toArray c',slots:= #[]}->EP X pins σ Q (.ref s.heap.objs.size) {s with heap:=h'}:=λits r' hz h' c' kp e=>
  ⟨.ref s.heap.objs.size,_,I.laid (t':=s.toks) kp (iA _) (show iD X.prog X.w _ h' _ (.lst ys) from ⟨hz,its,c',r',e⟩),rfl,q _ (I.hok.fresh (iA _))⟩
 rcases hq with hq|hq
 ·obtain⟨its,r',pl,hz⟩:=I.list hq;have hlen:=r'.length;obtain⟨o,ho,hc,n,hd⟩:=pl.isList;exact call_list_seq p (.inl rfl) ho hc hd (λh' c' kp e=>fin its r' hz h' c' kp e) (by simp only[VA]<;>omega)
 ·obtain⟨its,r',pl,hz⟩:=I.tuple hq;have hlen:=r'.length;obtain⟨o,ho,hc,n,hd⟩:=pl;exact call_list_seq p (.inr rfl) ho hc hd (λh' c' kp e=>fin its r' hz h' c' kp e) (by simp only[VA]<;>omega)
noncomputable def OT (K:PySem.W.Frag) (T:String) (x:V) (H:Hp):Prop:=match x with
 |.str _=>T="str"
 |.int _=>T="int"
 |.ref p=>(T="list"/\∃xs,aD K H p xs)\/(T="tuple"/\∃o,K.lookup p=some o/\o.cls=.type "tuple"/\o.dict=none)\/
  (T="dict"/\((∃kvs,H p=some (.dK kvs))\/∃kvs,H p=some (.dT kvs)))\/(T="set"/\∃S n,H p=some (.set S n))
 |_=>False
theorem Y4 {pins:List (Addr×Obj)} {σ:St} {H:Hp} {s:Shared} {T:String} {x:V} {v:Value} (I:wC X pins σ H s) (r:FC x v) (ty:OT X.K T x H):
  s.TypeIs v T/\∀a,v=.ref a->∃ob,s.heap.get? a=some ob/\ob.dict=none:=by
 cases x with
 |str z=>
  obtain⟨t,rfl⟩:=r;cases (show T="str" from ty);exact⟨typeIs_str s z t,λο e=>nomatch e⟩
 |int i=>
  obtain⟨t,rfl⟩:=r;cases (show T="int" from ty);exact⟨typeIs_int s i t,λο e=>nomatch e⟩
 |ref p=>
  cases r;rcases ty with ⟨rfl,xs,hq⟩|⟨rfl,o,hk,hc,hd⟩|⟨rfl,hk⟩|⟨rfl,S,n,hk⟩
  ·obtain⟨its,_,pl,_⟩:=I.list hq;refine⟨pl.isList.typeIs,λa e=>?_⟩;cases e;obtain⟨o,n,e,c,hd,_⟩:=pl;exact⟨o,e,hd⟩
  ·refine⟨⟨o,I.kIn p o hk,hc⟩,λa e=>?_⟩;cases e;exact⟨o,I.kIn _ o hk,hd⟩
  ·have z:∃o,s.heap.get? p=some o/\o.ExactDict:=by
    rcases hk with ⟨kvs,hk⟩|⟨kvs,hk⟩
    ·obtain⟨_,_,_,_,o,_,_,e,ex,_⟩:=I.hok p _ hk;exact⟨o,e,ex⟩
    ·obtain⟨_,_,_,_,o,_,_,e,ex,_⟩:=I.hok p _ hk;exact⟨o,e,ex⟩
   obtain⟨o,e,ex⟩:=z;refine⟨⟨o,e,ex.1⟩,λa e2=>?_⟩;cases e2;exact⟨o,e,ex.2.1⟩
  ·obtain⟨o,_,_,_,e,ex,_⟩:=I.hok p _ hk;refine⟨⟨o,e,ex.1⟩,λa e2=>?_⟩;cases e2;exact⟨o,e,ex.2.1⟩
 |_=>exact False.elim ty
noncomputable def ON (K:PySem.W.Frag) (T:String) (r:V->List V->Hp->VK->Prop) (to:TE):TE:=λσ H Q=>to σ H λx H1=>OT K T x H1/\r x [] H1 Q
noncomputable def Z4 (K:PySem.W.Frag) (T:String) (r:V->List V->Hp->VK->Prop) (to:TE) (t:TA):TE:=λσ H Q=>to σ H λx H1=>OT K T x H1/\t σ H1 λxs H2=>r x xs H2 Q
variable {o e:Expr} {es:List Expr} {to:TE} {t:TA} {name:Str} {apos cpos:Pos} {T id:String} {r:V->List V->Hp->VK->Prop}
theorem QT (pa:PlainAttrs T) (slot:Slot T name id) (hty:typeOf (.builtin id)=pure (.type "method_descriptor")) (hm:W4 X id r) (ho:PE X o to)
  (hbase:attributeBase o name X.env (eval o X.env)=eval o X.env:=by rfl) (hline:(apos.endLine == cpos.line)=true:=by rfl):PE X (.Call (.Attribute o name apos) [] [] cpos) (ON X.K T r to):=by
 intro pins s σ H Q I h;refine wpAny_Call_method0_late hbase hline (pD (ho pins s σ H _ I h) λv s1 zz=>?_);obtain⟨x,H1,I1,r1,ty,q1⟩:=zz;obtain⟨h1,h2⟩:=Y4 I1 r1 ty;exact⟨T,id,pa,slot,hty,h1,h2,Calls.callWith_builtin rfl (PySem.evalArgs_none (hm pins s1 σ H1 x [] v [] Q I1 r1 .nil q1))⟩
theorem GR (pa:PlainAttrs T) (slot:Slot T name id) (hty:typeOf (.builtin id)=pure (.type "method_descriptor")) (hm:W4 X id r) (ho:PE X o to) (ha:PA X (e::es) t)
  (hbase:attributeBase o name X.env (eval o X.env)=eval o X.env:=by rfl)
  (hfew:((backTo cpos (starEach (e::es) X.env)).all (λx=> !x.1)&&(backToKw cpos (keywordEach [] X.env)).all (λx=>x.1.isSome)
   &&decide ((e::es).length+([]:List Keyword).length+(if ([]:List Keyword).isEmpty then 0 else 1) < 30))=true:=by rfl)
  (hline:(apos.endLine == cpos.line)=true:=by rfl) (hs:starEach (e::es) X.env=(false,eval e X.env)::starEach es X.env:=by rfl) (hplain:(backTo cpos (starEach es X.env)).any (·.1)=false:=by rfl):
  PE X (.Call (.Attribute o name apos) (e::es) [] cpos) (Z4 X.K T r to t):=by
 intro pins s σ H Q I h;refine wpAny_Call_method_late hbase hfew hline rfl (pD (ho pins s σ H _ I h) λv s1 zz=>?_);obtain⟨x,H1,I1,r1,ty,q1⟩:=zz;obtain⟨h1,h2⟩:=Y4 I1 r1 ty;refine⟨T,id,pa,slot,hty,h1,h2,?_⟩;have hA:=ha cpos pins s1 σ H1 _ I1 q1;rw[hs] at hA ⊢;refine Calls.callWith_builtin (by show (false || (backTo cpos (starEach es X.env)).any (·.1))=false;rw[hplain]<;>rfl) (Calls.evalArgs_plain ?_);exact pD hA λus s2 ⟨vs,H2,I2,r2,q2⟩=>hm pins s2 σ H2 x vs v us Q I2 r1 r2 q2
end
end L2
namespace L2
open PySem PySem.Spec PyProof.Rows
noncomputable def RT (X:Cx) (id:String) (r:V->List V->Hp->VK->Prop):Prop:=
 ∀(pins:List (Addr×Obj)) (s:Shared) (σ:St) (H:Hp) (x:V) (xs:List V) (v:Value) (us:List Value) (Q:VK),wC X pins σ H s->FC x v->GC xs us->r x xs H Q->
  wpAny (model X.prog X.w) X.A (call (.builtin id) (v::us)) (EP X pins σ Q) X.xe s
theorem GC.one:∀{x:V} {us:List Value},GC [x] us->∃u,us=[u]/\FC x u:=by
 intro x us h;cases h with
 |cons r h=>cases h;exact⟨_,rfl,r⟩
theorem GC.two:∀{x y:V} {us:List Value},GC [x,y] us->∃u v,us=[u,v]/\FC x u/\FC y v:=by
 intro x y us h;cases h with
 |cons r h=>
  cases h with
  |cons q h=>cases h;exact⟨_,_,rfl,r,q⟩
theorem GC.zero:∀{us:List Value},GC [] us->us=[]
 |_,.nil=>rfl
theorem GC.dropLast {xs:List V} {us:List Value} (h:GC xs us):GC xs.dropLast us.dropLast:=by
 induction h with
 |nil=>exact .nil
 |cons r t ih=>
  cases t with
  |nil=>exact .nil
  |cons q t'=>exact .cons r ih
theorem Tg {α:Type} (l:List α):l.eraseIdx (l.length - 1)=l.dropLast:=by
 induction l with
 |nil=>rfl
 |cons a r ih=>
  cases r with
  |nil=>rfl
  |cons b r=>
   have e:(a::b::r).length - 1=((b::r).length - 1)+1:=by
    have h1:(a::b::r).length=r.length+2:=rfl;have h2:(b::r).length=r.length+1:=rfl;omega
   rw[e,List.eraseIdx_cons_succ,ih]
   all_goals rfl
section
variable {X:Cx} {pins:List (Addr×Obj)} {σ:St} {H:Hp} {s:Shared} {l b:Addr} {xs ys zs:List V}
theorem wC.lset {its its':List Value} {n:Nat} {f:Array Value->Array Value} {t':Nat} (I:wC X pins σ H s) (hH:H l=some (.lst xs))
  (e:s.heap.get? l=some {cls:=.type "list",data:=.seq its.toArray n}) (hf:f its.toArray=its'.toArray) (hv:GC ys its') (hz:ys.length<=sizeLine):
  wC X pins σ (yC H l (.lst ys)) {s with heap:=s.heap.update l (Obj.mapSeq f),toks:=t'}:=by
 have q:=PySem.IsL.update e f;rw[hf] at q;refine I.write (x:=l) (e:=l) (by rw[hH];exact trivial) (.inl rfl) (λb' u hb hu=>(aC s.heap (Obj.mapSeq f) (Ne.symm hb)).trans hu) ⟨_,q⟩ ?_;exact⟨hz,its',_,hv,q⟩
theorem wC.lnew {its:List Value} {t':Nat} (I:wC X pins σ H s) (hv:GC ys its) (hz:ys.length<=sizeLine):
  wC X pins σ (yC H s.heap.objs.size (.lst ys)) {s with heap:=s.heap.push {cls:=.type "list",data:=.seq its.toArray},toks:=t'}:=
 I.laid (λο ο q=>CA _ q) (iA _) ⟨hz,its,0,hv,XA _ rfl⟩
theorem wC.fresh (I:wC X pins σ H s):H s.heap.objs.size=none:=I.hok.fresh (iA _)
theorem wC.lstM (I:wC X pins σ H s) (hH:H l=some (.lst xs)):xs.length<=sizeLine/\∃(its:List Value) (n:Nat),GC xs its/\xs.length=its.length/\s.heap.get? l=some {cls:=.type "list",data:=.seq its.toArray n}:=by
 obtain⟨z,its,n,r,e⟩:=I.hok l _ hH;exact⟨z,its,n,r,r.length,e⟩
end
section
variable {X:Cx}
noncomputable def rAppend:V->List V->Hp->VK->Prop:=λx vs H Q=>∃l xs y,x=.ref l/\vs=[y]/\H l=some (.lst xs)/\xs.length < sizeLine/\Q .non (yC H l (.lst (xs++[y])))
theorem PN:RT X "list.append" rAppend:=by
 intro pins s σ H x vs v us Q I rx rv h;obtain⟨l,xs,y,rfl,rfl,hH,hz,q⟩:=h;cases rx;obtain⟨u,rfl,ru⟩:=rv.one;obtain⟨z,its,n,r,hl,e⟩:=I.lstM hH;refine call_meets F.slot_list_append ⟨_,e,rfl⟩ F.entry_list_append (F.args_list_append_2 _ _) (PySem.list_append l its.toArray n u (by rw[VA];omega)) ⟨e,?_⟩;refine⟨.non,_,I.lset (its':=its++[u]) hH e (by simp) (r.append (.cons ru .nil)) ?_,rfl,q⟩;rw[qA,iB];omega
noncomputable def rExtend:V->List V->Hp->VK->Prop:=λx vs H Q=>∃l b xs zs,x=.ref l/\vs=[.ref b]/\H l=some (.lst xs)/\H b=some (.lst zs)/\xs.length+zs.length<=sizeLine/\Q .non (yC H l (.lst (xs++zs)))
noncomputable def rPop:V->List V->Hp->VK->Prop:=λx vs H Q=>∃l xs y,x=.ref l/\vs=[]/\H l=some (.lst xs)/\xs[xs.length - 1]?=some y/\Q y (yC H l (.lst xs.dropLast))
theorem c5:RT X "list.pop" rPop:=by
 intro pins s σ H x vs v us Q I rx rv h;obtain⟨l,xs,y,rfl,rfl,hH,hy,q⟩:=h;cases rx;have hus:=rv.zero;subst hus;obtain⟨z,its,n,r,hl,e⟩:=I.lstM hH;obtain⟨u,hu,ru⟩:=r.get hy;have hy':its.toArray[its.toArray.size - 1]?=some u:=by
  show its.toArray[its.length - 1]?=some u;rw[<-MA,<-hl];exact hu
 refine call_meets F.slot_list_pop ⟨_,e,rfl⟩ F.entry_list_pop (F.args_list_pop_1 _) (MeetsSeq.list_pop_last l its.toArray n u hy' (by rw[VA];omega)) ⟨e,?_⟩;refine⟨y,_,I.lset (its':=its.dropLast) hH e ?_ r.dropLast ?_,ru,q⟩
 ·show its.toArray.eraseIdxIfInBounds (its.toArray.size - 1)=its.dropLast.toArray;rw[VA,List.eraseIdxIfInBounds_toArray,Tg]
 ·rw[List.length_dropLast];omega
noncomputable def rClear:V->List V->Hp->VK->Prop:=λx vs H Q=>∃l xs,x=.ref l/\vs=[]/\H l=some (.lst xs)/\Q .non (yC H l (.lst []))
theorem Ug:RT X "list.clear" rClear:=by
 intro pins s σ H x vs v us Q I rx rv h;obtain⟨l,xs,rfl,rfl,hH,q⟩:=h;cases rx;have hus:=rv.zero;subst hus;obtain⟨z,its,n,r,hl,e⟩:=I.lstM hH;refine call_meets F.slot_list_clear ⟨_,e,rfl⟩ F.entry_list_clear (F.args_list_clear_1 _) (AutoSeq1.list_clear_list_0 l its.toArray n (by rw[VA];omega)) ⟨e,?_⟩;exact⟨.non,_,I.lset (its':=[]) (ys:=[]) hH e rfl .nil (bC _),rfl,q⟩
noncomputable def rCat:R2:=λx y H Q=>∃l b xs zs,x=.ref l/\y=.ref b/\H l=some (.lst xs)/\H b=some (.lst zs)/\xs.length+zs.length<=sizeLine/\∀p,H p=none->Q (.ref p) (yC H p (.lst (xs++zs)))
theorem HM:gF X (binaryOp .Add) rCat:=by
 intro pins s σ H x y v u Q I rx ry h;obtain⟨l,b,xs,zs,rfl,rfl,hH,hB,hz,q⟩:=h;cases rx;cases ry;obtain⟨z,its,n,r,hl,e⟩:=I.lstM hH;obtain⟨z2,its2,n2,r2,hl2,e2⟩:=I.lstM hB;refine PySem.P.add_list e e2 ?_ (by rw[VA,VA];omega);have ea:its.toArray++its2.toArray=(its++its2).toArray:=by simp
 rw[ea];exact⟨.ref _,_,I.lnew (t':=s.toks) (r.append r2) (by rw[qA];omega),rfl,q _ I.fresh⟩
end
section
variable {prog:Program} {w:World} {A:Around} {E:Value->Shared->Prop} {s:Shared}
end
section
variable {X:Cx}
end
end L2
namespace L2
open PySem PySem.Spec PyProof.Rows
section
variable {κ:Type} [DecidableEq κ]
noncomputable def JC (kvs:List (κ×V)) (k:κ):Option V:=(kvs.find? λkv=>decide (kv.1=k)).map (·.2)
noncomputable def ED (kvs:List (κ×V)) (k:κ) (v:V):List (κ×V):=
 if (kvs.any λkv=>decide (kv.1=k))=true then kvs.map (λkv=>if kv.1=k then (kv.1,v) else kv) else kvs++[(k,v)]
noncomputable def nD (kvs:List (κ×V)) (k:κ):List (κ×V):=kvs.filter λkv=>decide (kv.1≠k)
theorem LG {p:κ×V} {r:List (κ×V)} {k:κ} (e:p.1=k):JC (p::r) k=some p.2:=by simp[JC,List.find?_cons,e]
theorem CG {p:κ×V} {r:List (κ×V)} {k:κ} (e:¬p.1=k):JC (p::r) k=JC r k:=by simp[JC,List.find?_cons,e]
theorem rJ (k:κ):∀kvs:List (κ×V),(kvs.any λkv=>decide (kv.1=k))=(JC kvs k).isSome
 |[]=>rfl
 |p::r=>by
  rw[List.any_cons];by_cases e:p.1=k
  ·simp only[LG e,kA e,Bool.true_or,Option.isSome_some]
  ·rw[CG e,yA e,Bool.false_or];exact rJ k r
theorem i5 (k j:κ) (y:V):∀kvs:List (κ×V),JC (kvs.map λkv=>if kv.1=k then (kv.1,y) else kv) j=(JC kvs j).map λx=>if j=k then y else x
 |[]=>rfl
 |p::r=>by
  have ih:=i5 k j y r;rw[QA];by_cases h:p.1=k
  ·rw[bA h];by_cases e:p.1=j
   ·rw[LG (p:=(p.1,y)) e,LG e,Option.map_some,bA (e.symm.trans h)]
   ·rw[CG (p:=(p.1,y)) e,CG e,ih]
  ·rw[aA h];by_cases e:p.1=j
   ·rw[LG (p:=p) e,LG e,Option.map_some,aA (λz=>h (e.trans z))]
   ·rw[CG (p:=p) e,CG e,ih]
theorem j5 (k j:κ) (y:V):∀kvs:List (κ×V),JC kvs k=none->JC (kvs++[(k,y)]) j=if j=k then some y else JC kvs j
 |[],_=>by
  by_cases e:k=j
  ·rw[bA e.symm];exact LG (p:=(k,y)) e
  ·rw[aA (λz=>e z.symm)];exact CG (p:=(k,y)) e
 |p::r,hn=>by
  rw[List.cons_append];have hk:¬p.1=k:=λz=>by rw[LG z] at hn;cases hn
  rw[CG hk] at hn;have ih:=j5 k j y r hn;by_cases e:p.1=j
  ·rw[LG e,LG e,aA (λz=>hk (e.trans z))]
  ·rw[CG e,CG e,ih]
theorem Vg (kvs:List (κ×V)) (k j:κ) (y:V):JC (ED kvs k y) j=if j=k then some y else JC kvs j:=by
 unfold ED;by_cases a:(kvs.any λkv=>decide (kv.1=k))=true
 ·rw[bA a,i5];rw[rJ] at a;by_cases e:j=k
  ·obtain⟨x,hx⟩:=Option.isSome_iff_exists.mp a;rw[bA e,e,hx,Option.map_some,bA rfl]
  ·rw[aA e];cases JC kvs j with
   |none=>rfl
   |some x=>rw[Option.map_some,aA e]
 ·rw[aA a];refine j5 k j y kvs ?_;rw[rJ] at a;cases q:JC kvs k with
  |none=>rfl
  |some x=>rw[q] at a;exact (a rfl).elim
theorem m5 (kvs:List (κ×V)) (k:κ) (v:V):(ED kvs k v).length<=kvs.length+1:=by
 unfold ED
 split
 ·rw[dA];omega
 ·rw[qA,jB,List.length_nil];omega
theorem UT {kvs:List (κ×V)} {k:κ} (v:V) (h:JC kvs k=none):ED kvs k v=kvs++[(k,v)]:=by
 unfold ED;rw[rJ,h];exact aA (by decide)
theorem qE.isSome_eq {o:Option V} {u:Option Value} (r:qE o u):o.isSome=u.isSome:=by
 cases o with
 |none=>cases u with
  |none=>rfl
  |some _=>exact (show False from r).elim
 |some _=>cases u with
  |none=>exact (show False from r).elim
  |some _=>rfl
theorem qE.getD {o:Option V} {u:Option Value} {d:V} {d':Value} (r:qE o u) (rd:FC d d'):FC (o.getD d) (u.getD d'):=by
 cases o with
 |none=>cases u with
  |none=>exact rd
  |some _=>exact (show False from r).elim
 |some _=>cases u with
  |none=>exact (show False from r).elim
  |some _=>exact r
theorem KV.val {kvs:List (κ×V)} {vs:List (κ×Value)} (r:KV kvs vs) (k:κ):qE (JC kvs k) (valueAt vs k):=by
 unfold KV at r
 induction r with
 |nil=>exact True.intro
 |@cons p q ps qs h t ih=>
  obtain⟨h1,h2⟩:=h;by_cases e:p.1=k
  ·have e':q.1=k:=h1.symm.trans e;have b:valueAt (q::qs) k=some q.2:=by simp[valueAt,List.find?_cons,e']
   rw[LG e,b];exact h2
  ·have e':¬q.1=k:=λz=>e (h1.trans z);have b:valueAt (q::qs) k=valueAt qs k:=by simp[valueAt,List.find?_cons,e']
   rw[CG e,b];exact ih
theorem KV.any {kvs:List (κ×V)} {vs:List (κ×Value)} (r:KV kvs vs) (k:κ):(kvs.any λkv=>decide (kv.1=k))=vs.any λkv=>decide (kv.1=k):=by
 unfold KV at r
 induction r with
 |nil=>rfl
 |cons h t ih=>rw[List.any_cons,List.any_cons,ih,h.1]
theorem KV.repl {kvs:List (κ×V)} {vs:List (κ×Value)} (r:KV kvs vs) (k:κ) {y:V} {u:Value} (ry:FC y u):
  KV (kvs.map λkv=>if kv.1=k then (kv.1,y) else kv) (vs.map λkv=>if kv.1=k then (kv.1,u) else kv):=by
 unfold KV at r ⊢
 induction r with
 |nil=>exact .nil
 |@cons p q ps qs h t ih=>
  rw[QA,QA];refine .cons ?_ ih;obtain⟨h1,h2⟩:=h;by_cases e:p.1=k
  ·rw[bA e,bA (h1.symm.trans e)];exact⟨h1,ry⟩
  ·rw[aA e,aA (λz=>e (h1.trans z))];exact⟨h1,h2⟩
theorem KV.put {kvs:List (κ×V)} {vs:List (κ×Value)} (r:KV kvs vs) (k:κ) {y:V} {u:Value} (ry:FC y u):KV (ED kvs k y) (stored vs k u):=by
 unfold ED stored;rw[r.any k];by_cases e:(vs.any λkv=>decide (kv.1=k))=true
 ·rw[bA e,bA e];exact r.repl k ry
 ·rw[aA e,aA e];exact Paired.snoc r ⟨rfl,ry⟩
theorem KV.drop {kvs:List (κ×V)} {vs:List (κ×Value)} (r:KV kvs vs) (k:κ):KV (nD kvs k) (without vs k):=by
 unfold KV at r ⊢;unfold nD without
 induction r with
 |nil=>exact .nil
 |@cons p q ps qs h t ih=>
  obtain⟨h1,h2⟩:=h;rw[dB,dB];by_cases e:p.1=k
  ·have a:¬decide (p.1≠k)=true:=by simp[e]
   have b:¬decide (q.1≠k)=true:=by simp[h1.symm.trans e]
   rw[aA a,aA b];exact ih
  ·have e':¬q.1=k:=λz=>e (h1.trans z);have a:decide (p.1≠k)=true:=by simp[e]
   have b:decide (q.1≠k)=true:=by simp[e']
   rw[bA a,bA b];exact .cons ⟨h1,h2⟩ ih
theorem KV.keys {kvs:List (κ×V)} {vs:List (κ×Value)} (r:KV kvs vs):kvs.map (·.1)=vs.map (·.1):=by
 unfold KV at r
 induction r with
 |nil=>rfl
 |cons h t ih=>rw[QA,QA,ih,h.1]
theorem KV.length {kvs:List (κ×V)} {vs:List (κ×Value)} (r:KV kvs vs):kvs.length=vs.length:=Paired.length r
theorem HR (kvs:List (κ×V)) (k:κ):(nD kvs k).length<=kvs.length:=BB _ _
end
theorem IM {P:Program} {w:World} {k:Key} {u:Value} (r:FC (kV k) u):(kD P w).is k u=true:=by
 cases k with
 |inl i=>obtain⟨t,e⟩:=(show ∃t,u=Value.int i t from r);subst e;exact vf P w i t
 |inr x=>obtain⟨t,e⟩:=(show ∃t,u=Value.str x t from r);subst e;exact wf P w x t
theorem n5 {P:Program} {w:World}:∀{ks:List Key} {us:List Value},GC (ks.map kV) us->ItemsAre (kD P w) ks us
 |[],_,r=>by rw[KB] at r;cases r;exact .nil
 |k::ks,_,r=>by
  rw[QA] at r;cases r with
  |cons h t=>exact .cons (IM h) (n5 t)
noncomputable abbrev KT (H:Hp):List (List Key×V)->List (List Key×Addr×Value)->Prop:=Paired λp q=>p.1=q.1/\H q.2.1=some (.tup (p.1.map kV))/\FC p.2 q.2.2
theorem KT.val {H:Hp} {kvs:List (List Key×V)} {xs:List (List Key×Addr×Value)} (r:KT H kvs xs) (k:List Key):qE (JC kvs k) ((atKey xs k).map (·.2)):=by
 induction r with
 |nil=>exact True.intro
 |@cons p q ps qs h t ih=>
  obtain⟨h1,_,h2⟩:=h;by_cases e:p.1=k
  ·have e':q.1=k:=h1.symm.trans e;have b:atKey (q::qs) k=some q.2:=by simp[atKey,List.find?_cons,e']
   rw[LG e,b];exact h2
  ·have e':¬q.1=k:=λz=>e (h1.trans z);have b:atKey (q::qs) k=atKey qs k:=by simp[atKey,List.find?_cons,e']
   rw[CG e,b];exact ih
theorem KT.repl {H:Hp} {kvs:List (List Key×V)} {xs:List (List Key×Addr×Value)} (r:KT H kvs xs) (k:List Key) {y:V} {u:Value} (ry:FC y u):
  KT H (kvs.map λkv=>if kv.1=k then (kv.1,y) else kv) (xs.map (putAt k u)):=by
 induction r with
 |nil=>exact .nil
 |@cons p q ps qs h t ih=>
  rw[QA,QA];refine .cons ?_ ih;obtain⟨h1,h2,h3⟩:=h;unfold putAt;by_cases e:p.1=k
  ·rw[bA e,bA (h1.symm.trans e)];exact⟨h1,h2,ry⟩
  ·rw[aA e,aA (λz=>e (h1.trans z))];exact⟨h1,h2,h3⟩
theorem KT.put {H:Hp} {kvs:List (List Key×V)} {xs:List (List Key×Addr×Value)} (r:KT H kvs xs) (k:List Key) {b:Addr} {y:V} {u:Value} (hb:H b=some (.tup (k.map kV))) (ry:FC y u):
  KT H (ED kvs k y) (storedH xs k b u):=by
 have e:(kvs.any λkv=>decide (kv.1=k))=(atKey xs k).isSome:=by
  rw[rJ,(r.val k).isSome_eq,Option.isSome_map]
 unfold ED storedH;rw[e];by_cases q:(atKey xs k).isSome=true
 ·rw[bA q,bA q];exact r.repl k ry
 ·rw[aA q,aA q];exact Paired.snoc r ⟨rfl,hb,ry⟩
theorem KT.keeps {H H':Hp} {kvs:List (List Key×V)} {xs:List (List Key×Addr×Value)} (r:KT H kvs xs) (ht:∀b ys,H b=some (.tup ys)->H' b=some (.tup ys)):KT H' kvs xs:=
 Paired.mapP r λο ο z=>⟨z.1,ht _ _ z.2.1,z.2.2⟩
section
variable {P:Program} {w:World} {H:Hp} {h:Heap} {a:Addr}
theorem sJ {u:HO} (ok:wE P w H h) (e:Rd H a u):iD P w H h a u:=e.ok ok
theorem vI {kvs:List (Key×V)} (ok:wE P w H h) (e:Rd H a (.dK kvs)):kvs.length<=sizeLine/\(a == sysModules)=false/\∃vs,KV kvs vs/\h.DictOf (kD P w) a vs:=
 show iD P w H h a (.dK kvs) from sJ ok e
theorem tJ {kvs:List (Key×V)} (ok:wE P w H h) (e:H a=some (.dK kvs)):kvs.length<=sizeLine/\(a == sysModules)=false/\∃vs,KV kvs vs/\h.DictOf (kD P w) a vs:=vI ok (.inl e)
theorem QN {ks:List Key} (ok:wE P w H h) (e:H a=some (.tup (ks.map kV))):(tupleKind (kD P w)).is h ks a:=by
 obtain⟨_,its,r,o,h1,h2,n,h3⟩:=(show iD P w H h a (.tup (ks.map kV)) from ok a _ e)
 exact⟨o,its.toArray,n,h1,h2,h3,by simpa using n5 r⟩
theorem JM {kvs:List (List Key×V)} (ok:wE P w H h) (e:Rd H a (.dT kvs)):kvs.length<=sizeLine/\(a == sysModules)=false/\
  ∃xs,KT H kvs xs/\h.DictOfH (tupleKind (kD P w)) a xs:=by
 obtain⟨z,y,xs,r,o,es,ep,h1,h2,h3,h4,h5⟩:=(show iD P w H h a (.dT kvs) from sJ ok e)
 refine⟨z,y,xs,r,o,es,ep,h1,h2,h3,h4,λx hx=>?_,h5⟩;have all:∀{l:List (List Key×V)} {m:List (List Key×Addr×Value)},KT H l m->∀x∈m,(tupleKind (kD P w)).is h x.1 x.2.1:=by
  intro l m q
  induction q with
  |nil=>intro x hx;exact nomatch hx
  |@cons p q ps qs hq t ih=>
   intro x hx;rcases wA.mp hx with e|hx
   ·subst e;exact QN ok (by rw[<-hq.1];exact hq.2.1)
   ·exact ih x hx
 exact all r x hx
theorem RN {kvs:List (List Key×V)} (ok:wE P w H h) (e:H a=some (.dT kvs)):kvs.length<=sizeLine/\(a == sysModules)=false/\
 ∃xs,KT H kvs xs/\h.DictOfH (tupleKind (kD P w)) a xs:=JM ok (.inl e)
end
noncomputable def CF (H:Hp) (a:Addr) (y:V) (r:Option V):Prop:=
 (∃kvs k,Rd H a (.dK kvs)/\y=kV k/\r=JC kvs k)\/∃kvs k b,Rd H a (.dT kvs)/\y=.ref b/\H b=some (.tup (k.map kV))/\r=JC kvs k
noncomputable def iH (H:Hp) (a:Addr) (y v:V) (H':Hp):Prop:=
 (∃kvs k,H a=some (.dK kvs)/\y=kV k/\kvs.length < sizeLine/\H'=yC H a (.dK (ED kvs k v)))\/
 ∃kvs k b,H a=some (.dT kvs)/\y=.ref b/\H b=some (.tup (k.map kV))/\kvs.length < sizeLine/\H'=yC H a (.dT (ED kvs k v))
theorem CF.k {H:Hp} {a:Addr} {kvs:List (Key×V)} {k:Key} (e:H a=some (.dK kvs)):CF H a (kV k) (JC kvs k):=.inl ⟨kvs,k,.inl e,rfl,rfl⟩
theorem CF.t {H:Hp} {a b:Addr} {kvs:List (List Key×V)} {k:List Key} (e:H a=some (.dT kvs)) (eb:H b=some (.tup (k.map kV))):CF H a (.ref b) (JC kvs k):=.inr ⟨kvs,k,b,.inl e,rfl,eb,rfl⟩
theorem iH.k {H:Hp} {a:Addr} {kvs:List (Key×V)} {k:Key} {v:V} (e:H a=some (.dK kvs)) (hl:kvs.length < sizeLine):iH H a (kV k) v (yC H a (.dK (ED kvs k v))):=.inl ⟨kvs,k,e,rfl,hl,rfl⟩
theorem iH.t {H:Hp} {a b:Addr} {kvs:List (List Key×V)} {k:List Key} {v:V} (e:H a=some (.dT kvs)) (eb:H b=some (.tup (k.map kV))) (hl:kvs.length < sizeLine):
 iH H a (.ref b) v (yC H a (.dT (ED kvs k v))):=.inr ⟨kvs,k,b,e,rfl,eb,hl,rfl⟩
section
variable {X:Cx} {pins:List (Addr×Obj)} {σ:St} {H:Hp} {s:Shared} {a:Addr} {y v:V} {u r:Value} {o:Option V} {A:Around} {E:Value->Shared->Prop}
theorem wC.big (I:wC X pins σ H s):sysModules < s.heap.objs.size:=by
 have h:mainGlobals < s.heap.objs.size:=(I.mod.glob.keeps I.bk).lt;exact Nat.lt_trans (by decide) h
theorem Wg {Q:Value->Shared->Prop} (hu:A.units+1 < cLine) (I:wC X pins σ H s) (g:CF H a y (some v)) (ry:FC y u) (h:∀w' s',wC X pins σ H s'->FC v w'->Q w' s'):
  wpAny (model X.prog X.w) A (getItem (.ref a) u) Q E s:=by
 rcases g with ⟨kvs,k,e,ey,l⟩|⟨kvs,k,b,e,ey,eb,l⟩
 ·subst ey;obtain⟨z,hd,vs,rel,dd⟩:=vI I.hok e;obtain⟨w',hw,rw'⟩:=qE.some_of (v:=v) (o:=valueAt vs k) (by rw[l];exact rel.val k);exact wpAny_getItem_of (IM ry) dd.mapOf hw (h w' _ (I.tok _) rw')
 ·subst ey;cases (show u=Value.ref b from ry);obtain⟨z,hd,xs,rel,dd⟩:=JM I.hok e;obtain⟨w',hw,rw'⟩:=qE.some_of (v:=v) (o:=(atKey xs k).map (·.2)) (by rw[l];exact rel.val k);obtain⟨p,hp,hp2⟩:=HA.mp hw;refine wpAny_getItem_heap (tupleKind_room_in1 hu) (QN I.hok eb) dd hp ?_;rw[hp2];exact h w' _ (I.tok _) rw'
theorem VT {Q:Value->Shared->Prop} (hu:A.units+1 < cLine) (I:wC X pins σ H s) (g:CF H a y o) (ry:FC y u) (h:∀s',wC X pins σ H s'->Q (.bool o.isSome) s'):
  wpAny (model X.prog X.w) A (compareOp .In u (.ref a)) Q E s:=by
 rcases g with ⟨kvs,k,e,ey,l⟩|⟨kvs,k,b,e,ey,eb,l⟩
 ·subst ey;obtain⟨z,hd,vs,rel,dd⟩:=vI I.hok e;refine wpAny_in_of (IM ry) hd dd.mapOf ?_;rw[<-(rel.val k).isSome_eq,<-l];exact h _ (I.tok _)
 ·subst ey;cases (show u=Value.ref b from ry);obtain⟨z,hd,xs,rel,dd⟩:=JM I.hok e;refine wpAny_in_heap (tupleKind_room_in1 hu) (QN I.hok eb) hd dd ?_;have q:=(rel.val k).isSome_eq;rw[Option.isSome_map] at q;rw[<-q,<-l];exact h _ (I.tok _)
theorem Xg {Q:Value->Shared->Prop} (hu:A.units+1 < cLine) (I:wC X pins σ H s) (g:CF H a y o) (ry:FC y u) (h:∀s',wC X pins σ H s'->Q (.bool (!o.isSome)) s'):
  wpAny (model X.prog X.w) A (compareOp .NotIn u (.ref a)) Q E s:=by
 rcases g with ⟨kvs,k,e,ey,l⟩|⟨kvs,k,b,e,ey,eb,l⟩
 ·subst ey;obtain⟨z,hd,vs,rel,dd⟩:=vI I.hok e;refine wpAny_notIn_of (IM ry) hd dd.mapOf ?_;rw[<-(rel.val k).isSome_eq,<-l];exact h _ (I.tok _)
 ·subst ey;cases (show u=Value.ref b from ry);obtain⟨z,hd,xs,rel,dd⟩:=JM I.hok e;refine wpAny_notIn_heap (tupleKind_room_in1 hu) (QN I.hok eb) hd dd ?_;have q:=(rel.val k).isSome_eq;rw[Option.isSome_map] at q;rw[<-q,<-l];exact h _ (I.tok _)
theorem WT {h':Heap} {t':Nat} {ob:HO} (I:wC X pins σ H s) (mu:xN (H a)) (hs:Heap.SameBut a s.heap h') (he:∃q,h'.get? a=some q) (new:iD X.prog X.w (yC H a ob) h' a ob):
  wC X pins σ (yC H a ob) {s with heap:=h',toks:=t'}:=
 I.write (x:=a) (e:=a) mu (.inl rfl) (λb q hb z=>(hs.2 b hb).trans z) he new
theorem XT {P:Program} {w:World} {H':Hp} {h':Heap} {kvs:List (Key×V)} {vs:List (Key×Value)} (z:kvs.length<=sizeLine) (hd:(a == sysModules)=false) (rel:KV kvs vs) (dd:h'.DictOf (kD P w) a vs):
 iD P w H' h' a (.dK kvs):=⟨z,hd,vs,rel,dd⟩
theorem Yg {H':Hp} {Q:Unit->Shared->Prop} (hu:A.units+1 < cLine) (I:wC X pins σ H s) (g:iH H a y v H') (ry:FC y u) (rv:FC v r) (h:∀s',wC X pins σ H' s'->Q () s'):
  wpAny (model X.prog X.w) A (setItem (.ref a) u r) Q E s:=by
 rcases g with ⟨kvs,k,e,ey,l,eH⟩|⟨kvs,k,b,e,ey,eb,l,eH⟩
 ·subst ey eH;obtain⟨z,hd,vs,rel,dd⟩:=tJ I.hok e;have hz:vs.length<=sizeLine:=by rw[<-rel.length];exact z
  have hl:(ED kvs k v).length<=sizeLine:=by have:=m5 kvs k v;omega
  refine wpAny_setItem_pairs (hsz:=hz) (IM ry) dd λh' dd' hs=>h _ ?_;have he:∃q,h'.get? a=some q:=let ⟨q,_,_,hq,_⟩:=dd';⟨q,hq⟩
  exact WT I (by rw[e];exact True.intro) hs he (XT hl hd (rel.put k rv) dd')
 ·subst ey eH;cases (show u=Value.ref b from ry);obtain⟨z,hd,xs,rel,dd⟩:=RN I.hok e;have hz:xs.length<=sizeLine:=by rw[<-Paired.length rel];exact z
  have hl:(ED kvs k v).length<=sizeLine:=by have:=m5 kvs k v;omega
  refine wpAny_setItem_heap (hsz:=hz) (tupleKind_room_in1 hu) (QN I.hok eb) dd λh' dd' hs=>h _ ?_;obtain⟨q,es,ep,hq,h2,h3,h4,_,h5⟩:=dd';refine WT I (by rw[e];exact True.intro) hs ⟨q,hq⟩ ⟨hl,hd,_,(rel.put k eb rv).keeps λc ys ec=>?_,q,es,ep,hq,h2,h3,h4,h5⟩;rw[WC (OE ec e (λz=>nomatch z))];exact ec
end
section
variable {X:Cx} {pins:List (Addr×Obj)} {σ:St} {H:Hp} {s:Shared} {a:Addr} {kvs:List (Key×V)} {k:Key} {u:Value} {A:Around} {E:Value->Shared->Prop}
theorem SN {v:V} {more:List Value} {Q:Value->Shared->Prop} (I:wC X pins σ H s) (e:H a=some (.dK kvs)) (ry:FC (kV k) u) (l:JC kvs k=some v) (hm:more=[]\/∃x,more=[x])
  (h:∀w' s',wC X pins σ (yC H a (.dK (nD kvs k))) s'->FC v w'->Q w' s'):wpAny (model X.prog X.w) A (call (.builtin "dict.pop") (.ref a::u::more)) Q E s:=by
 obtain⟨z,hd,vs,rel,dd⟩:=tJ I.hok e;obtain⟨w',hw,rw'⟩:=qE.some_of (v:=v) (o:=valueAt vs k) (by rw[<-l];exact rel.val k);have hp:(keyPart u).isSome=true:=by
  cases k with
  |inl i=>obtain⟨t,q⟩:=(show ∃t,u=Value.int i t from ry);subst q;rfl
  |inr x=>obtain⟨t,q⟩:=(show ∃t,u=Value.str x t from ry);subst q;rfl
 have ha:argsOk "dict.pop" ⟨.ref a::u::more,[]⟩:=by
  rcases hm with q|⟨x,q⟩
  ·subst q;exact PySem.F.args_dict_pop_2 _ _
  ·subst q;exact PySem.F.args_dict_pop_3 _ _ _
 refine call_meetsIn PySem.F.slot_dict_pop dd.typeIs PySem.F.entry_dict_pop ha (meets_dict_pop_there (kD X.prog X.w) a (IM ry) more hm hp)
  ⟨vs,w',dd,by rw[<-rel.length];exact z,hw,λh' dd' hs=>h w' _ ?_ rw'⟩
 have he:∃q,h'.get? a=some q:=let ⟨q,_,_,hq,_⟩:=dd';⟨q,hq⟩
 exact WT I (by rw[e];exact True.intro) hs he (XT (YA (HR kvs k) z) hd (rel.drop k) dd')
theorem TN {Q:Value->Shared->Prop} (I:wC X pins σ H s) (e:Rd H a (.dK kvs)) (h:∀t s',wC X pins σ H s'->Q (.int kvs.length t) s'):wpAny (model X.prog X.w) A (call (.builtin "len") [.ref a]) Q E s:=by
 obtain⟨z,hd,vs,rel,dd⟩:=vI I.hok e;refine call_len_dict hd dd (by rw[<-rel.length];rw[sizeLine_eq] at z;omega) ?_;rw[<-rel.length];exact h _ _ (I.tok _)
end
noncomputable def UN (i:Expr):Prop:=∀ov iv,subscripted i false ov iv=operate [ov,iv] (getItem ov iv)
theorem Zg {prog:Program} {w:World} {A:Around} {E:Value->Shared->Prop} {s:Shared} {env:Env} {value slice:Expr} {pos:Pos} {T id:String} {Q:Value->Shared->Prop}
  (hl:typeLookup (.type T) "__getitem__"=pure (some (.builtin id))) (hs:UN slice)
  (h:wpAny (model prog w) A (eval value env) (λo s₁=>wpAny (model prog w) A (eval slice env) (λi s₂=>s₂.TypeIs o T/\wpAny (model prog w) A (getItem o i) Q E s₂) E s₁) E s):
  wpAny (model prog w) A (eval (.Subscript value slice pos) env) Q E s:=by
 refine Subscript_ (rB h (λo s₁ h₁=>rB h₁ (λi s₂ h₂=>?_) λο ο x=>x) λο ο x=>x);obtain⟨hT,h₂⟩:=h₂;unfold subscriptTail;refine jA ?_;rw[getitemInPython_of_ne hT.not_modules];refine jA (wpAny_specialOf hT hl ?_);have fin:wpAny (model prog w) A (subscripted slice false o i) (λr s₃=>wpAny (model prog w) A (letTemporaryGo value o r >>= λο=>pure r) Q E s₃) E s₂:=by
  rw[hs o i];exact wpAny_operating (rB h₂ (λr s₃ h₃=>jA (wpAny_letTemporaryGo (OA h₃))) λο ο x=>x)
 first
  |exact OA (jA fin)
  |exact jA (OA (jA fin))
  |exact jA fin
theorem dh {X:Cx} {pins:List (Addr×Obj)} {σ:St} {H:Hp} {s:Shared} {a:Addr} {y:V} {o:Option V} (I:wC X pins σ H s) (g:CF H a y o):s.TypeIs (.ref a) "dict":=by
 rcases g with ⟨kvs,k,e,_,_⟩|⟨kvs,k,b,e,_,_,_⟩
 ·obtain⟨_,_,vs,_,dd⟩:=vI I.hok e;exact dd.typeIs
 ·obtain⟨_,_,xs,_,dd⟩:=JM I.hok e;exact dd.typeIs
noncomputable def ND (td ty:TE):TE:=λσ H Q=>td σ H λx H1=>ty σ H1 λy H2=>∃a v,x=.ref a/\CF H2 a y (some v)/\Q v H2
noncomputable def jH (ty td:TE):TE:=λσ H Q=>ty σ H λy H1=>td σ H1 λx H2=>∃a o,x=.ref a/\CF H2 a y o/\Q (.bl o.isSome) H2
noncomputable def FE (ty td:TE):TE:=λσ H Q=>ty σ H λy H1=>td σ H1 λx H2=>∃a o,x=.ref a/\CF H2 a y o/\Q (.bl (!o.isSome)) H2
noncomputable def aF (td ty tv:TE):TS:=λD σ H=>tv σ H λv H1=>td σ H1 λx H2=>ty σ H2 λy H3=>∃a H4,x=.ref a/\iH H3 a y v H4/\D.nx σ H4
section
variable {X:Cx} {o i e value:Expr} {pos pos' tpos:Pos} {td ty tv:TE}
theorem hG (hu:X.A.units+1 < cLine) (ho:PE X o td) (hi:PE X i ty) (hs:UN i):PE X (.Subscript o i pos) (ND td ty):=by
 intro pins s σ H Q I h;refine Zg PySem.F.slot_dict_getitem.lookup hs (pD (ho pins s σ H _ I h) λu s1 ⟨x,H1,I1,rx,q1⟩=>pD (hi pins s1 σ H1 _ I1 q1) λiv s2 zz=>?_);obtain⟨y,H2,I2,ry,a,v,ex,g,q2⟩:=zz;subst ex;obtain rfl:u=Value.ref a:=rx;exact⟨dh I2 g,Wg hu I2 g ry λw' s3 I3 rw'=>⟨v,H2,I3,rw',q2⟩⟩
theorem VN (hu:X.A.units+1 < cLine) (hi:PE X i ty) (ho:PE X o td):PC X .In i o (jH ty td):=by
 intro pins s σ H Q I h;refine pD (hi pins s σ H _ I h) λiv s1 ⟨y,H1,I1,ry,q1⟩=>pD (ho pins s1 σ H1 _ I1 q1) λu s2 zz=>?_;obtain⟨x,H2,I2,rx,a,ov,ex,g,q2⟩:=zz;subst ex;obtain rfl:u=Value.ref a:=rx;exact VT hu I2 g ry λs3 I3=>⟨.bl ov.isSome,H2,I3,rfl,q2⟩
theorem WN (hu:X.A.units+1 < cLine) (hi:PE X i ty) (ho:PE X o td):PC X .NotIn i o (FE ty td):=by
 intro pins s σ H Q I h;refine pD (hi pins s σ H _ I h) λiv s1 ⟨y,H1,I1,ry,q1⟩=>pD (ho pins s1 σ H1 _ I1 q1) λu s2 zz=>?_;obtain⟨x,H2,I2,rx,a,ov,ex,g,q2⟩:=zz;subst ex;obtain rfl:u=Value.ref a:=rx;exact Xg hu I2 g ry λs3 I3=>⟨.bl (!ov.isSome),H2,I3,rfl,q2⟩
theorem QI (hu:X.A.units+1 < cLine) (ho:PE X o td) (hi:PE X i ty) (hv:PE X value tv) (hs:swapsWith value (some (.Subscript o i pos')) pos.line X.env=pure false):
  PS X (.Assign [.Subscript o i pos'] value pos) (aF td ty tv):=by
 intro pins s σ H D I h;refine wpAny_Assign_Subscript (pD (hv pins s σ H _ I h) λr s1 ⟨v,H1,I1,rv,q1⟩=>pD (ho pins s1 σ H1 _ I1 q1) λu s2 ⟨x,H2,I2,rx,q2⟩=>pD (hi pins s2 σ H2 _ I2 q2) λiv s3 zz=>?_) hs;obtain⟨y,H3,I3,ry,a,H4,ex,g,q3⟩:=zz;subst ex;obtain rfl:u=Value.ref a:=rx;exact Yg hu I3 g ry rv λs4 I4=>⟨σ,H4,I4,q3⟩
end
theorem fh {P:Program} {w:World} {H:Hp} (h:Heap) (hb:sysModules < h.objs.size):iD P w H (h.push {cls:=.type "dict",data:=.dict #[]}) h.objs.size (.dK []):=
 ⟨bC _,YB.mpr (Ne.symm (cB hb)),[],.nil,Heap.DictOf.new h⟩
noncomputable def tDNewK:TE:=λο H Q=>∀p,H p=none->Q (.ref p) (yC H p (.dK []))
section
variable {X:Cx} {pos:Pos}
theorem KM:PE X (.Dict [] [] pos) tDNewK:=λpins s σ H Q I h=>
 wpAny_Dict_empty ⟨.ref s.heap.objs.size,_,I.laid (a:=s.heap.objs.size) (o:=.dK []) (t':=s.toks) (λο ο q=>CA _ q) (iA _) (fh s.heap I.big),rfl,h _ (I.hok.fresh (iA _))⟩
end
structure M1 (X:Cx) (o:Expr) (m:Str) (apos:Pos) (e:Expr) (cpos:Pos):Prop where
 base:attributeBase o m X.env (eval o X.env)=eval o X.env
 few:((backTo cpos (starEach [e] X.env)).all (λx=> !x.1)&&(backToKw cpos (keywordEach [] X.env)).all (λx=>x.1.isSome)
  &&decide (([e]:List Expr).length+([]:List Keyword).length+(if ([]:List Keyword).isEmpty then 0 else 1) < 30))=true
 line:(apos.endLine == cpos.line)=true
 trees:backTo cpos (starEach [e] X.env)=[(false,eval e X.env)]
noncomputable def o5 (H:Hp) (a:Addr):Prop:=(∃kvs,Rd H a (.dK kvs))\/∃kvs,Rd H a (.dT kvs)
theorem t5 {X:Cx} {pins:List (Addr×Obj)} {σ:St} {H:Hp} {s:Shared} {a:Addr} (I:wC X pins σ H s) (d:o5 H a):
  s.TypeIs (.ref a) "dict"/\(∀b,Value.ref a=.ref b->∃ob,s.heap.get? b=some ob/\ob.dict=none)/\(a == sysModules)=false:=by
 rcases d with ⟨kvs,e⟩|⟨kvs,e⟩
 ·obtain⟨_,hd,vs,_,dd⟩:=vI I.hok e;refine⟨dd.typeIs,λb q=>?_,hd⟩;cases q;obtain⟨ob,_,_,h1,h2,_⟩:=dd;exact⟨ob,h1,h2.2.1⟩
 ·obtain⟨_,hd,xs,_,dd⟩:=JM I.hok e;refine⟨dd.typeIs,λb q=>?_,hd⟩;cases q;obtain⟨ob,_,_,h1,h2,_⟩:=dd;exact⟨ob,h1,h2.2.1⟩
section
variable {X:Cx} {pins:List (Addr×Obj)} {σ:St} {H:Hp} {s:Shared} {a:Addr} {y d:V} {u r:Value} {o:Option V} {A:Around} {E:Value->Shared->Prop}
end
noncomputable def jF (td ty:TE):TE:=λσ H Q=>td σ H λx H1=>∃a,x=.ref a/\o5 H1 a/\ty σ H1 λy H2=>∃kvs k v,H2 a=some (.dK kvs)/\y=kV k/\JC kvs k=some v/\Q v (yC H2 a (.dK (nD kvs k)))
section
variable {X:Cx} {o e f:Expr} {apos cpos:Pos} {td ty tx:TE}
theorem XN (ho:PE X o td) (he:PE X e ty) (m:M1 X o "pop" apos e cpos):PE X (.Call (.Attribute o "pop" apos) [e] [] cpos) (jF td ty):=by
 intro pins s σ H Q I h;refine wpAny_Call_method m.base m.few m.line PySem.F.plainAttrs_dict PySem.F.slot_dict_pop PySem.F.type_dict_pop (pD (ho pins s σ H _ I h) λu s1 zz=>?_);obtain⟨x,H1,I1,rx,a,ex,d,q1⟩:=zz;subst ex;obtain rfl:u=Value.ref a:=rx;obtain⟨t1,t2,_⟩:=t5 I1 d;refine⟨t1,t2,?_⟩;rw[m.trees];refine Calls.callWith_builtin rfl (Calls.evalArgs_plain (Calls.spliced_cons (pD (he pins s1 σ H1 _ I1 q1) λiv s2 ⟨y,H2,I2,ry,kvs,k,v,ea,ey,l,q2⟩=>Calls.spliced_nil ?_)));subst ey;exact SN I2 ea ry l (.inl rfl) λw' s3 I3 rw'=>⟨v,_,I3,rw',q2⟩
end
section
variable {X:Cx} {pins:List (Addr×Obj)} {σ:St} {H:Hp} {s:Shared} {a:Addr} {kvs:List (Key×V)} {A:Around} {E:Value->Shared->Prop}
theorem gh {Q:Value->Shared->Prop} (I:wC X pins σ H s) (e:Rd H a (.dK kvs)) (h:∀p s',H p=none->wC X pins σ (yC H p (.dK kvs)) s'->Q (.ref p) s'):wpAny (model X.prog X.w) A (call (.type "dict") [.ref a]) Q E s:=by
 obtain⟨z,hd,vs,rel,dd⟩:=vI I.hok e;refine kt_call_dict hd dd (by rw[<-rel.length];exact z) λh' dd' hs=>?_;refine h _ _ (I.hok.fresh (iA _)) (I.laid (a:=s.heap.objs.size) (o:=.dK kvs) (t':=s.toks) (λb q hq=>?_) (iA _) (XT z (YB.mpr (Ne.symm (cB I.big))) rel dd'));exact (hs.2 b (cB (GA hq))).trans (CA _ hq)
end
section
variable {X:Cx} {pins:List (Addr×Obj)} {σ:St} {H:Hp} {s:Shared} {a:Addr} {y:V} {u:Value} {A:Around} {E:Value->Shared->Prop}
end
end L2
namespace Att
open PySem PySem.W PySem.Calls PyProof.Rows
theorem jh {P:Params} {h:Heap}:∀(ns:List Int) (vs:List Value),WellAll P h vs (ns.map WData.int)->IntsAre vs ns:=by
 intro ns
 induction ns with
 |nil=>
  intro vs w;rw[KB] at w;cases w;exact .nil
 |cons n ns ih=>
  intro vs w;rw[QA] at w;cases w with
  |cons a b=>
   cases a;exact .cons _ _ (ih _ b)
theorem kh {l:OpenLaw} {n:Nat} (hn:l.most=some n) {P:Params} {h:Heap} {args:List WData} {vals:List Value}
  (hpre:l.row.toRowW.claim.pre args=true) (hwl:WellAll P h vals args):
  ∃a vs ns,vals=[Value.ref a]/\args=[WData.list (ns.map WData.int)]/\h.get? a=some {cls:=.type "list",data:=.seq vs.toArray}/\IntsAre vs ns/\ns.length<=n:=by
 have hsh:WShape.hasAll [] args [.list .int]=true:=(pre_splitW hpre).1;have hc:l.pre.holds [] {args:=args}=true:=(pre_splitW hpre).2;obtain⟨d,r,rfl,h1,h2⟩:=hasAllW_cons hsh;obtain rfl:=hasAllW_nil h2;obtain⟨xs,rfl,h3⟩:=hasW_list h1;obtain⟨ns,rfl⟩:=items_int h3;have hlen:ns.length<=n:=by
  unfold OpenLaw.pre at hc;have h4:(WTm.not (.lt (.lit (.int (n:Int))) (.len (.arg 0)))).holds [] {args:=[.list (ns.map .int)]}=true:=by
   have h4:=(holds_andW hc).1;rw[hn] at h4;exact h4
  have h5:=condW_of h4 (w_not (w_lt w_lit (w_len_list (w_arg rfl))));rw[dA] at h5;refine Nat.le_of_not_lt λq=>?_;have q':(n:Int) < ((ns.length:Nat):Int):=⋯
  first
   |(rw[kA q'] at h5;exact absurd h5 (by decide))
   |(simp at h5;omega)
 cases hwl with
 |cons w1 w2=>
  cases w2;cases w1 with
  |list ho hall=>exact⟨_,_,ns,rfl,rfl,ho,jh ns _ hall,hlen⟩
theorem lh (l:OpenLaw) (args:List WData):l.row.toRowW.claim.post args (.bool true) args=true:=
 postW_of (r:=l.row.toRowW) (X:=(true == true))
  (show WShape.has [] (.bool true) .bool=true by first|rfl|decide|simp[WShape.has,WShape.arms,WShape.armsAll])
  (show (WTm.eq .res (.lit (.bool true))).value [] {args:=args,res:=some (.bool true),after:=args}=some (.bool (true == true)) from w_eq_bool (w_res rfl) w_lit) rfl
theorem mh {l:OpenLaw} {n:Nat} {q:Program} {loose:List Str} {XP:(Str->Option Value)->Heap->Prop} {YP:World->Heap->Prop} {d:DefRec}
  (hn:l.most=some n) (hdf:d.params.defaults=[])
  (call:∀(w:World) (s₀ s₁:Shared) (mg mb:Str->Option Value) (fa:Addr) (o:Obj) (pm cd doc:Value) (a:Addr) (vs:List Value) (ns:List Int),
   Ground q loose [] XP w s₀ mg mb s₁.heap->YP w s₁.heap->
   s₁.heap.get? fa=some o->o.data=.func (docDef d.name d.params d.body d.scope pm cd doc)->s₁.heap.CodeRec cd d.name->mg d.name=some (.ref fa)->
   s₁.heap.get? a=some {cls:=.type "list",data:=.seq vs.toArray}->IntsAre vs ns->ns.length<=n->s₁.gens= #[]->
   codeAny (model l.prog w) callerA (.call (.ref fa) ⟨[.ref a],[]⟩) (λr s'=>r=.ok (.ret (.bool true))/\OldK s₁.heap s'.heap/\s'.os=s₁.os/\AllBare s'.gens) s₁):
  WalkO q loose XP YP l.row.toRowW d [] (λf vs=>PySem.call f vs):=by
 intro w s₀ s₁ mg mb G Y fa o pm cd doc dV kV ho hd hcd hD hmg hg args vals as hpre hlay hrd hwl hlo;obtain rfl:dV=.none:=Dflts.none hD hdf;obtain rfl:kV=.none:=Dflts.noKw hD;obtain⟨a,vs,ns,rfl,rfl,hobj,hints,hlen⟩:=kh hn hpre hwl;refine enter_call (codeAny_mono (call w s₀ s₁ mg mb fa o pm cd doc a vs ns G Y ho (fd_plain hd) hcd hmg hobj hints hlen hg) λr s' hq=>?_);obtain⟨rfl,h2,h3,h4⟩:=hq;exact⟨.inl ⟨.bool true,.bool true,[],rfl,λο=>rfl,.bool true,lh l _,λο=>⟨List.Pairwise.nil,λο hm=>(nomatch hm)⟩⟩,h2,h3,h4⟩
section
variable {prog:Program} {w:World} {A:Around} {E:Value->Shared->Prop} {s:Shared} {K:Frag}
noncomputable def ledger (h:Heap) (L d:Addr):List (Addr×Obj):=(List.range h.objs.size).filterMap λa=>if a=L\/a=d then none else (h.get? a).map λo=>(a,o)
end
end Att
namespace L2
open PySem PySem.Spec PyProof.Rows
theorem u5:∀{vs:List Value} {ns:List Int},IntsAre vs ns->GC (ns.map V.int) vs
 |_,_,.nil=>.nil
 |_,_,.cons n t h=>.cons ⟨t,rfl⟩ (u5 h)
noncomputable def NK (H:Hp):Prop:=∀b,H b=none\/∃o xs,H b=some (.frz o (.lst xs))
theorem nh {P:Program} {w:World} {K:PySem.W.Frag} {mg mb:Str->Option Value} {CX:CXT} {k:Nat} {fa a:Addr} {fd:FuncData} {x:Str} {sp:Sp} {s₁:Shared} {vs:List Value} {ns:List Int}
  (KX:K.In s₁.heap) (hns:s₁.heap.Ns mainGlobals mg) (hb:s₁.heap.Ns builtinsNs mb) (hbb:∀x:Str,x≠"__name__"->mb x=bootBuiltins x) (hlim:s₁.heap.NoLimit) (hg:s₁.gens= #[])
  (ha:s₁.heap.get? a=some {cls:=.type "list",data:=.seq vs.toArray}) (hi:IntsAre vs ns) (hl:ns.length<=sizeLine) (hr:PD k callerA)
  (F:∀base:Heap,K.In base->base.Ns mainGlobals mg->QE P w K mg base CX k fa fd [x] sp) (hbind:∀(s:Shared) (u:Value),BindsTo s fd ⟨[u],[]⟩ [(x,u)])
  (hsp:∀H:Hp,NK H->aD K H a (ns.map V.int)->sp [.ref a] H (λv ο=>v=.bl true) λο ο ο=>False)
  (hCX:∀H e s',CX [] H s₁ (λο ο ο=>False) e s'->False):
  codeAny (model P w) callerA (.call (.ref fa) ⟨[.ref a],[]⟩) (λr s'=>r=.ok (.ret (.bool true))/\OldK s₁.heap s'.heap/\s'.os=s₁.os/\AllBare s'.gens) s₁:=by
 have rv:=u5 hi;have lenV:=hi.length;have core:∀H:Hp,NK H->aD K H a (ns.map V.int)->wE P w H s₁.heap->(∀b,H b≠none->b=a)->(H a≠none->K.lookup a=none)->
   codeAny (model P w) callerA (.call (.ref fa) ⟨[.ref a],[]⟩) (λr s'=>r=.ok (.ret (.bool true))/\OldK s₁.heap s'.heap/\s'.os=s₁.os/\AllBare s'.gens) s₁:=by
  intro H hO hS hok hA hK;have base_of:∀{b:Addr} {o:Obj},s₁.heap.get? b=some o->H b=none->(dG s₁.heap H).get? b=some o:=λe n=>zf e n;have noA:∀{b:Addr} {o:Obj} {es:Array DictEntry} {ep:Nat},s₁.heap.get? b=some o->o.data=.dict es ep->H b=none:=λ{b o es ep} e d=>by
   cases q:H b with
   |none=>rfl
   |some u=>
    have e':b=a:=hA b (by rw[q];simp);subst e';rw[ha] at e;cases e;have d':Data.seq vs.toArray _=Data.dict es ep:=d;cases d'
  have nsK:∀{b:Addr} {m:Str->Option Value},s₁.heap.Ns b m->(dG s₁.heap H).Ns b m:=λ{b m} ⟨o,es,ep,e,d,r⟩=>⟨o,es,ep,base_of e (noA e d),d,r⟩
  have hKb:K.In (dG s₁.heap H):=λb o e=>base_of (KX b o e) (by
   cases q:H b with
   |none=>rfl
   |some u=>
    have e':b=a:=hA b (by rw[q];simp);subst e';rw[hK (by rw[q];simp)] at e;cases e)
  have hM:Mod K mg (dG s₁.heap H):=⟨hKb,nsK hns,⟨mb,nsK hb,hbb⟩,let ⟨mc,h1,h2⟩:=hlim;⟨mc,nsK h1,h2⟩⟩
  have e0:fG P w K mg (dG s₁.heap H) callerA [] s₁ H:=⟨rfl,hM,λb o e=>Tf e,Nat.le_of_eq (yf _ _),trivial,λb hb=>absurd (show b∈([]:List Addr) from hb) (by simp),hok,.of_eq hg⟩
  refine codeAny_mono ((F _ hKb (nsK hns)).run callerA [] s₁ H ⟨[.ref a],[]⟩ [.ref a] [.ref a] _ _ hr e0 (hbind s₁ (.ref a)) (.cons rfl .nil) (hsp H hO hS)) λr s' h=>?_;cases r with
  |error e=>exact (hCX H e s' h).elim
  |ok fl=>
   cases fl with
   |next=>exact False.elim h
   |brk=>exact False.elim h
   |cont=>exact False.elim h
   |ret u=>
    obtain⟨v,H',os,bare,un,hok',r',q⟩:=h;have q':v=.bl true:=q;subst q';obtain rfl:u=Value.bool true:=r';refine⟨rfl,OldK.of_keep λb o e=>?_,os,bare⟩;cases q:H b with
    |none=>exact un.keep b o e q (by intro z;exact absurd (show b∈([]:List Addr) from z) (by simp)) (by simp)
    |some u=>
     rcases hO b with z|⟨ob,xs,z⟩
     ·rw[q] at z;cases z
     ·have z2:=un.frzs b ob _ z;obtain⟨e1,_⟩:=hok b _ z;obtain⟨e2,_⟩:=hok' b _ z2;rw[e] at e1;cases e1;exact e2
 cases hk:K.lookup a with
 |some o=>
  have e:=KX a o hk;rw[ha] at e;cases e;refine core (λο=>none) (λο=>.inl rfl) (.inr ⟨_,vs.toArray,_,hk,rfl,rfl,rfl,by rw[VA,lenV];exact hl,by simpa using rv⟩) (λb u z=>by have z':(none:Option HO)=some u:=z;cases z') (λb z=>absurd rfl z) λz=>absurd rfl z
 |none=>
  refine core (λb=>if b=a then some (.frz {cls:=.type "list",data:=.seq vs.toArray} (.lst (ns.map V.int))) else none) (λb=>?_) (.inl (.inr ⟨{cls:=.type "list",data:=.seq vs.toArray},bA rfl⟩)) (λb u z=>?_) (λb z=>?_) λο=>hk
  ·by_cases hb:b=a
   ·exact .inr ⟨_,_,bA hb⟩
   ·exact .inl (aA hb)
  ·by_cases hb:b=a
   ·have z':=(bA hb).symm.trans z;cases z';subst hb;exact⟨ha,by rw[dA];exact hl,vs,_,rv,ha⟩
   ·have z':=(aA hb).symm.trans z;cases z'
  ·by_cases hb:b=a
   ·exact hb
   ·exact absurd (aA hb) z
end L2
namespace L2
open PySem PySem.Spec PyProof.Rows
theorem oh {l:PySem.W.OpenLaw} {n k:Nat} {q:Program} {loose:List Str} {XP:(Str->Option Value)->Heap->Prop} {YP:World->Heap->Prop} {d:DefRec} {K:Params->PySem.W.Frag} {CX:World->CXT} {sp:World->Sp} {x:Str}
  (hn:l.most=some n) (hn2:n<=sizeLine) (hdf:d.params.defaults=[]) (hr:PD k callerA)
  (hY:∀(w:World) (h:Heap),YP w h->(K w.params).In h)
  (F:∀(w:World) (mg:Str->Option Value) (fa:Addr) (h:Heap),(K w.params).In h->h.Ns mainGlobals mg->mg d.name=some (.ref fa)->
   ∃fd:FuncData,(∀(s:Shared) (u:Value),BindsTo s fd ⟨[u],[]⟩ [(x,u)])/\
    ∀base:Heap,(K w.params).In base->base.Ns mainGlobals mg->QE l.prog w (K w.params) mg base (CX w) k fa fd [x] (sp w))
  (hsp:∀(w:World) (H:Hp) (a:Addr) (ns:List Int),ns.length<=n->NK H->aD (K w.params) H a (ns.map V.int)->sp w [.ref a] H (λv ο=>v=.bl true) λο ο ο=>False)
  (hCX:∀(w:World) (H:Hp) (s:Shared) (e:Value) (s':Shared),CX w [] H s (λο ο ο=>False) e s'->False):
  PySem.W.WalkO q loose XP YP l.row.toRowW d [] (λf vs=>PySem.call f vs):=by
 refine Att.mh hn hdf λw s₀ s₁ mg mb fa o pm cd doc a vs ns G Y ho hd hcd hmg hobj hints hlen hg=>?_;have KX:=hY w _ Y;obtain⟨fd,hb,hF⟩:=F w mg fa _ KX G.T.g hmg;exact nh KX G.T.g G.T.b G.T.builtins G.T.nolimit hg hobj hints (YA hlen hn2) hr hF hb (λH hO hS=>hsp w H a ns hlen hO hS) λH e s'=>hCX w H s₁ e s'
end L2
namespace L2
open PySem PySem.Spec PyProof.Rows
noncomputable def oC (s:Stmt) (j:Nat):Stmt:=match s with
 |.ClassDef _ _ _ body _ _ _ _ _ _ _=>body.getD j (.Pass ⟨0,0,0,0⟩)
 |_=>.Pass ⟨0,0,0,0⟩
noncomputable def BC (s:Stmt):Arguments:=match s with
 |.FunctionDef _ a _ _ _ _ _ _ _ _=>a
 |_=>{posonlyargs:=[],args:=[],vararg:=none,kwonlyargs:=[],kw_defaults:=[],kwarg:=none,defaults:=[]}
noncomputable def zC (s:Stmt):List Stmt:=match s with
 |.FunctionDef _ _ b _ _ _ _ _ _ _=>b
 |_=>[]
noncomputable def mC (s:Stmt):Scope:=match s with
 |.FunctionDef _ _ _ _ _ _ sc _ _ _=>sc
 |_=>{kind:=.function,names:=[],isGenerator:=false,isCoroutine:=false}
noncomputable abbrev S5:CXT:=λο ο ο ο ο ο=>False
structure sG (K:PySem.W.Frag) (x qual:Str) (st:Stmt) (f:Addr) (fd:FuncData):Prop where
 ex:∃(oc:Value) (od:Option Addr) (kV doc pm:Value) (an:Option Addr) (cdv ct:Value) (osl:Array (Option Value)),
  fd=PySem.W.fnOf x qual (BC st) (zC st) (mC st) .none kV doc pm an cdv ct/\K.lookup f=some ⟨oc,od,.func fd,osl⟩/\PySem.W.codeIn K cdv qual=true
 kp:PySem.W.keepIn K (.ref f)=true
section
variable {P:Program} {w:World} {K:PySem.W.Frag} {mg:Str->Option Value} {base:Heap}
theorem sG.ok {x qual:Str} {st:Stmt} {f:Addr} {fd:FuncData} {N ps:List Str} {k:Nat} {sp:Sp} (F:sG K x qual st f fd) (S:qC N ps (mC st)) (len:∀vs H Q E,sp vs H Q E->vs.length=ps.length)
  (hbody:∀(cdv:Value) (A:Around) (outer:List Env) (s:Shared) (H:Hp) (vs:List V) (Q:VK) (E:XK),PD k (A.deeper (envOfC qual (mC st) s.heap.objs.size f cdv))->sp vs H Q E->
   ∃t,TF (iE S5 P w K mg base N qual (mC st) f cdv A outer s H E).nox (zC st) t/\t {nx:=λο H'=>Q .non H',rt:=Q} (fE N vs) H):QE P w K mg base S5 (k+1) f fd ps sp:=by
 obtain⟨oc,od,kV,doc,pm,an,cdv,ct,osl,rfl,lk,hcd⟩:=F.ex;refine IT lk hcd S len λA outer s H vs Q E hr hsp=>?_;obtain⟨t,h,q⟩:=hbody cdv A outer s H vs Q E hr hsp;exact⟨t,h.nox,q⟩
theorem sG.binds {x qual:Str} {st:Stmt} {f:Addr} {fd:FuncData} {ps:List Str} (F:sG K x qual st f fd)
  (h:∀(kV doc pm:Value) (an:Option Addr) (cdv ct:Value) (us:List Value),us.length=ps.length->bindArgs (PySem.W.fnOf x qual (BC st) (zC st) (mC st) .none kV doc pm an cdv ct) ⟨us,[]⟩=pure (ps.zip us)):bE K fd ps []:=by
 obtain⟨oc,od,kV,doc,pm,an,cdv,ct,osl,rfl,lk,hcd⟩:=F.ex;exact .all (h kV doc pm an cdv ct)
theorem YT {x qual:Str} {st:Stmt} {f:Addr} {oc:Value} {od an:Option Addr} {osl:Array (Option Value)} {kV doc pm cdv ct:Value} (l:K.lookup f=some ⟨oc,od,.func (PySem.W.fnOf x qual (BC st) (zC st) (mC st) .none kV doc pm an cdv ct),osl⟩)
 (c:PySem.W.codeIn K cdv qual=true) (k:PySem.W.keepIn K (.ref f)=true):sG K x qual st f (PySem.W.fnOf x qual (BC st) (zC st) (mC st) .none kV doc pm an cdv ct):=⟨⟨oc,od,kV,doc,pm,an,cdv,ct,osl,rfl,l,c⟩,k⟩
end
theorem vE {A:Around} {k:Nat} (hr:PD k A):A.units+1 < cLine:=Nat.lt_of_le_of_lt (Nat.add_le_add_left (by decide:1<=64) _) hr.units
section
variable {X:Cx}
theorem wI:lE X (.builtin "len") (λxs H Q=>∃a kvs,xs=[V.ref a]/\H a=some (.dK kvs)/\Q (.int kvs.length) H):=by
 intro pins s σ H xs us Q I r h;obtain⟨a,kvs,rfl,ha,q⟩:=h;obtain⟨u,rfl,ru⟩:=BF r;cases ru;exact TN I (.inl ha) λt s' I'=>⟨.int kvs.length,H,I',⟨t,rfl⟩,q⟩
end
theorem CC {A B:Prop} (h:B):if false=true then A else B:=by
 rw[aA nA];exact h
theorem qD {A B:Prop} (h:A):if true=true then A else B:=by
 rw[bA rfl];exact h
theorem VC {c A B:Prop} [Decidable c] (h1:c->A) (h2:¬c->B):if c then A else B:=by
 by_cases h:c
 ·rw[bA h];exact h1 h
 ·rw[aA h];exact h2 h
noncomputable def vC (H H':Hp):Prop:=∀b o,H b=some o->H' b=some o
theorem vC.trans {H H1 H2:Hp} (a:vC H H1) (b:vC H1 H2):vC H H2:=λc o h=>b c o (a c o h)
theorem vC.free {H H':Hp} (e:vC H H') {l:Addr} (h:H' l=Option.none):H l=Option.none:=by
 cases q:H l with
 |none=>rfl
 |some o=>
  rw[e l o q] at h;cases h
theorem vC.seq {K:PySem.W.Frag} {H H':Hp} {a:Addr} {xs:List V} (e:vC H H') (h:aD K H a xs):aD K H' a xs:=by
 rcases h with (h|⟨o,h⟩)|h
 ·exact .inl (.inl (e _ _ h))
 ·exact .inl (.inr ⟨o,e _ _ h⟩)
 ·exact .inr h
section
variable {κ:Type} [DecidableEq κ]
theorem LM {kvs:List (κ×V)} {k:κ} (h:JC kvs k=none):¬k∈kvs.map (·.1):=by
 intro m;obtain⟨p,hp,e⟩:=xA.mp m;have q:(kvs.any λkv=>decide (kv.1=k))=true:=List.any_eq_true.mpr ⟨p,hp,kA e⟩;rw[rJ,h] at q;exact absurd q (by simp)
theorem uJ {kvs:List (κ×V)} {k:κ} {v:V} (h:JC kvs k=some v):k∈kvs.map (·.1):=by
 have q:(kvs.any λkv=>decide (kv.1=k))=true:=by
  rw[rJ,h]
  all_goals rfl
 obtain⟨p,hp,e⟩:=List.any_eq_true.mp q;exact xA.mpr ⟨p,hp,OB e⟩
theorem ph {p:κ×V} {r:List (κ×V)} {k:κ} (e:p.1=k):nD (p::r) k=nD r k:=by
 unfold nD;rw[dB,aA (by simp[e])]
theorem qh {p:κ×V} {r:List (κ×V)} {k:κ} (e:¬p.1=k):nD (p::r) k=p::nD r k:=by
 unfold nD;rw[dB,bA (by simp[e])]
theorem rh {kvs:List (κ×V)} {k:κ} {p:κ×V} (h:p∈nD kvs k):p∈kvs:=(zB.mp h).1
end
end L2
set_option maxHeartbeats 4000000
namespace L2
open PySem PySem.Spec PyProof.Rows
section
variable {M:Model} {A:Around} {E:Value->Shared->Prop} {s:Shared}
noncomputable def iG (e:Addr) (h:Heap):Prop:=∃o vs,h.get? e=some o/\o.data=.fields vs/\vs[2]?=some .none
theorem NH {B:Heap} {env:Env} {ol:List Env} {L e:Addr} {oe:Obj} {vs:Array Value} {hd0 a0:Value} {nx:Bool} {Q:Unit->Shared->Prop}
  (fr:A.frames=some (env::ol)) (ff:s.heap.FunFrames B (env::ol)) (ef:env.frame=some L) (ge:s.heap.get? e=some oe) (st:B.StaysIn s.heap) (ne:B.get? e=none) (dd:oe.data=.fields vs) (sz:1 < vs.size) (v0:vs[0]?=some a0) (v2:vs[2]?=some .none)
  (q:∀h',Heap.NotedW B (env::ol) e oe.cls a0 (rawInt L) s.heap h'->iG e h'->Q () {s with heap:=h'}):
  wpAny M A (do let a<-frameOf env;let pl<-entryPlaceOf L nx;let b<-EntryCells.newEntry hd0 a .none (rawInt L) .none pl;setField (.ref e) 1 b) Q E s:=by
 have notF:e∉(env::ol).filterMap (·.frame):=λm=>by
  obtain⟨_,o,go,nf⟩:=ff.mem m;rw[ge] at go;cases go;exact nf vs dd
 refine jA (wpAny_frameOf_fun fr ff ef λk1 z1=>jA (wpAny_entryPlaceOf λpl zp=>?_));unfold EntryCells.newEntry newFields;refine jA (wpAny_newObj_type ?_ (zp.sizeOk5 _ _ _ _ _));have g1:k1.get? e=some oe:=(z1.2.1 e notF).trans ge;have st1:B.StaysIn k1:=λb o hb=>(z1.2.1 b λm=>by rw[(ff.mem m).1] at hb;cases hb).trans (st b o hb);generalize ho:({cls:=.type "traceback",dict:=none,data:=.fields ([hd0,.ref L,.none,rawInt L,.none]++(if pl.isEmpty then List.replicate 6 Value.none else pl)).toArray}:Obj)=nT;have hdT:nT.data=.fields ([hd0,.ref L,.none,rawInt L,.none]++(if pl.isEmpty then List.replicate 6 Value.none else pl)).toArray:=by rw[<-ho]
 have hfreed:nT.isFreed=false:=Obj.isFreed_of_fields hdT;have g2:(k1.push nT).get? e=some oe:=CA nT g1;have gT:(k1.push nT).get? k1.objs.size=some nT:=XA k1 hfreed;refine wpAny_setField g2 dd sz ?_;have dis:k1.objs.size≠e:=Nat.ne_of_gt (GA g1);have d3:=Obj.data_mapFields dd (·.setIfInBounds 1 (Value.ref k1.objs.size));have g3:=Heap.get?_update_self (Obj.mapFields (·.setIfInBounds 1 (Value.ref k1.objs.size))) g2 (Obj.isFreed_of_fields d3);have gT3:=(aC (k1.push nT) (Obj.mapFields (·.setIfInBounds 1 (Value.ref k1.objs.size))) (Ne.symm dis)).trans gT;have kp:∀b o,b≠e->k1.get? b=some o->((k1.push nT).update e (Obj.mapFields (·.setIfInBounds 1 (Value.ref k1.objs.size)))).get? b=some o:=λb o n g=>by
  rw[aC _ _ (Ne.symm n)];exact CA _ g
 have rcd:∀b o,s.heap.get? b=some o->(∀vs,o.data≠.fields vs)->b≠e:=λb o g nf z=>by
  rw[z,ge] at g;cases g;exact nf vs dd
 have t3:([hd0,.ref L,.none,rawInt L,.none]++(if pl.isEmpty then List.replicate 6 Value.none else pl)).toArray[3]?=some (rawInt L):=by simp
 refine q _ ⟨λb o hb=>kp b o (λz=>by rw[z,ne] at hb;cases hb) (st1 b o hb),ff.of_keeps λb o g nf=>?_,⟨_,_,k1.objs.size,nT,_,g3,⟨Obj.cls_mapFields _ _,?_⟩,d3,?_,st1.fresh,dis,gT3,hdT,t3⟩,λb o g nf=>?_⟩ ⟨_,_,g3,d3,?_⟩
 ·obtain⟨sl,hs⟩:=z1.2.2 b o g;exact⟨_,kp b _ (rcd b o g nf) hs,rfl⟩
 ·rw[Array.getElem?_setIfInBounds_ne (by decide)];exact v0
 ·simp[sz]
 ·obtain⟨sl,hs⟩:=z1.2.2 b o g;exact⟨sl,kp b _ (rcd b o g nf) hs⟩
 ·rw[Array.getElem?_setIfInBounds_ne (by decide)];exact v2
theorem jG {B:Heap} {l:List Env} {e:Addr} {cls a0 fl:Value} {Q:Unit->Shared->Prop} (st:B.StaysIn s.heap) (ff:s.heap.FunFrames B l) (tr:s.heap.TracedAtW B e cls a0 fl) (nc:iG e s.heap) (ne:B.get? e=none)
  (q:∀h',Heap.FlyingW B l e cls a0 h'->s.heap.UpToSlots h'->iG e h'->Q () {s with heap:=h'}):wpAny M A (setFlight (.ref e) none) Q E s:=by
 obtain⟨oe,vs,T,oT,ts,ge,hc,dd,v1,nT,dis,gT,dT,t3⟩:=tr;have s3:3 < ts.size:=(Array.getElem?_eq_some_iff.mp t3).1;unfold setFlight;refine jA (wpAny_field ge dd v1 ?_);rw[bA (show (Value.ref T != Value.none)=true by simp)];have oth:∀b,b≠T->(s.heap.update T (Obj.mapFields (·.setIfInBounds 3 ((none:Option Addr).elim Value.none λf=>rawInt f)))).get? b=s.heap.get? b:=λb n=>aC _ _ (Ne.symm n);have rcd:∀b o,s.heap.get? b=some o->(∀vs,o.data≠.fields vs)->b≠T:=λb o g nf z=>by
  rw[z,gT] at g;cases g;exact nf ts dT
 refine wpAny_setField gT dT s3 (q _ ⟨λb o hb=>(oth b λz=>by rw[z,nT] at hb;cases hb).trans (st b o hb),ne,ff.of_keeps λb o g nf=>⟨o,(oth b (rcd b o g nf)).trans g,rfl⟩,?_⟩ (λb o g nf=>⟨o.slots,(oth b (rcd b o g nf)).trans g⟩) ?_)
 ·exact⟨oe,vs,T,_,_,(oth e (Ne.symm dis)).trans ge,hc,dd,v1,nT,dis,Heap.get?_update_self _ gT (Obj.isFreed_of_fields (Obj.data_mapFields dT _)),Obj.data_mapFields dT _,by simp[s3]⟩
 ·obtain⟨o,vs',g,d,v⟩:=nc;exact⟨o,vs',(oth e (Ne.symm dis)).trans g,d,v⟩
theorem OH {B:Heap} {env:Env} {ol:List Env} {L e:Addr} {cls a0:Value} {Q:Unit->Shared->Prop} (fr:A.frames=some (env::ol)) (ef:env.frame=some L) (fl:Heap.FlyingW B (env::ol) e cls a0 s.heap) (nc:iG e s.heap)
  (q:∀h',Heap.HeldW B (env::ol) e cls a0 L h'->s.heap.UpToSlots h'->iG e h'->Q () {s with heap:=h'}):wpAny M A (noteFrame (.ref e) env) Q E s:=by
 obtain⟨st,ne,ff,oe,vs,T,oT,ts,ge,⟨hc,v0⟩,dd,v1,nT,dis,gT,dT,t3⟩:=fl;obtain⟨o',vs',g',d',v2⟩:=nc;rw[ge] at g';cases g';rw[dd] at d';cases d';subst hc;unfold noteFrame;simp only[ef];refine jA (wpAny_field ge dd v1 ?_);rw[bA (show (Value.ref T != Value.none)=true by simp)];refine jA (wpAny_field gT dT t3 ?_);rw[aA (show ¬((Value.none == rawInt L)=true) by simp[rawInt])];refine jA (wpAny_setField gT dT (Array.getElem?_eq_some_iff.mp t3).1 ?_);have oth:∀b,b≠T->(s.heap.update T (Obj.mapFields (·.setIfInBounds 3 Value.none))).get? b=s.heap.get? b:=λb n=>aC _ _ (Ne.symm n);have rcd:∀b o,s.heap.get? b=some o->(∀vs,o.data≠.fields vs)->b≠T:=λb o g nf z=>by
  rw[z,gT] at g;cases g;exact nf ts dT
 refine NH fr (ff.of_keeps λb o g nf=>⟨o,(oth b (rcd b o g nf)).trans g,rfl⟩) ef ((oth e (Ne.symm dis)).trans ge) (λb o hb=>(oth b λz=>by rw[z,nT] at hb;cases hb).trans (st b o hb)) ne dd (Array.getElem?_eq_some_iff.mp v1).1 v0 v2 λh' ⟨x1,x2,x3,x4⟩ nc'=>?_;exact q h' ⟨x1,ne,x2,x3⟩ (λb o g nf=>x4 b o ((oth b (rcd b o g nf)).trans g) nf) nc'
theorem RI {B:Heap} {env:Env} {ol:List Env} {L e:Addr} {cls a0:Value} {Q:Unit->Shared->Prop} (fr:A.frames=some (env::ol)) (ef:env.frame=some L) (fl:Heap.FlyingW B (env::ol) e cls a0 s.heap) (nc:iG e s.heap)
  (q:∀h',Heap.FlyingW B ol e cls a0 h'->s.heap.UpToSlots h'->iG e h'->Q () {s with heap:=h'}):wpAny M A (leaving env (.ref e)) Q E s:=by
 unfold leaving;refine jA (OH fr ef fl nc λk ⟨h1,h2,h3,h4⟩ up nk=>?_);refine jG (s:={s with heap:=k}) h1 h3 h4 nk h2 λk' ⟨f1,f2,⟨_,_,f3⟩,f4⟩ up' nk'=>?_;exact q k' ⟨f1,f2,f3,f4⟩ (up.trans up') nk'
theorem tG {B h:Heap} {env:Env} {ol:List Env} {L e:Addr} {cls:Value} {args:List Value} {Q:Unit->Shared->Prop} (fr:A.frames=some (env::ol)) (ef:env.frame=some L) (st:B.StaysIn h) (ff:h.FunFrames B (env::ol)) (mk:Heap.MadeExcOf h s.heap e cls args)
  (q:∀h' t,Heap.FlyingW B ol e cls (.ref t) h'->s.heap.UpToSlots h'->iG e h'->Q () {s with heap:=h'}):wpAny M A (leaving env (.ref e)) Q E s:=by
 obtain⟨t,ge,_,_⟩:=mk.there;have new:∀b,h.get? b=none->B.get? b=none:=λb hb=>by
  cases z:B.get? b with
  |none=>rfl
  |some o=>have:=st b o z;rw[hb] at this;cases this
 unfold leaving noteFrame;simp only[ef];refine jA (jA (wpAny_field ge rfl (x:=.none) rfl ?_));rw[aA (by decide)];refine NH fr (ff.of_keeps λb o hb ο=>⟨o,mk.keeps b o hb,rfl⟩) ef ge (λb o hb=>mk.keeps b o (st b o hb)) (new e mk.new) rfl (by simp) (a0:=.ref t) rfl rfl λk ⟨x1,x2,x3,x4⟩ nk=>?_;refine jG (s:={s with heap:=k}) x1 x2 x3 nk (new e mk.new) λk' ⟨f1,f2,⟨_,_,f3⟩,f4⟩ up' nk'=>?_;exact q k' t ⟨f1,f2,f3,f4⟩ (Heap.UpToSlots.trans (λb o g nf=>x4 b o g nf) up') nk'
end
end L2
namespace L2
open PySem PySem.Spec PyProof.Rows
structure IR (B:Heap) (l:List Env) (h:Heap) (H H':Hp) (h':Heap) (ea:Addr) (cls:Value):Prop where
 fl:∃a0,Heap.FlyingW B l ea cls a0 h'
 trk:∀b u,H' b=some u->∃o,B.get? b=some o
 kept:∀b o,h.get? b=some o->H b=none->b∉VD l->B.get? b=some o
 alive:∀b o,h.get? b=some o->b∉VD l->∃o',B.get? b=some o'
 nc:iG ea h'
noncomputable def kG (P:Program) (w:World):CXT:=λouter H s E e s'=>∃ea cls H' B,e=.ref ea/\s'.os=s.os/\AllBare s'.gens/\Un (VD outer) [] H H' s.heap s'.heap/\wE P w H' s'.heap/\IR B outer s.heap H H' s'.heap ea cls/\E cls none H'
noncomputable abbrev XKs:=Value->St->Hp->Prop
noncomputable def XW (X:Cx) (K:XKs):Prop:=∀(pins:List (Addr×Obj)) (σ:St) (H:Hp) (s s':Shared) (ea:Addr) (cls:Value) (H':Hp) (B:Heap),wC X pins σ H s->s'.os=s.os->AllBare s'.gens->
 Un (VD X.stack) [] H H' s.heap s'.heap->wE X.prog X.w H' s'.heap->IR B X.stack s.heap H H' s'.heap ea cls->K cls σ H'->X.xe (.ref ea) s'
theorem V5 {env:Env} {l:List Env} {L:Addr} (h:env.frame=some L):VD (env::l)=L::VD l:=by
 unfold VD;rw[List.filterMap_cons,h]
theorem wE.flown {P:Program} {w:World} {H:Hp} {B h h':Heap} (x:wE P w H h) (t:∀b u,H b=some u->∃o,B.get? b=some o) (s:B.StaysIn h) (s':B.StaysIn h'):wE P w H h':=λa o e=>
 (x a o e).stay (λb u hb q=>by
  have hB:∃o,B.get? b=some o:=by
   rcases hb with rfl|hb
   ·exact t _ _ e
   ·exact t _ _ hb
  obtain⟨o',ho⟩:=hB;have e1:=s b o' ho;rw[q] at e1;cases e1;exact s' b _ ho) (λο q=>q) λο ο q=>q
theorem KC {P:Program} {w:World} {K:PySem.W.Frag} {mg:Str->Option Value} {base:Heap} {N:List Str} {qual:Str} {scope:Scope} {f:Addr} {cd:Value} {A:Around} {outer:List Env} {s0:Shared} {H0:Hp} {E:XK}:
  XW (iE (kG P w) P w K mg base N qual scope f cd A outer s0 H0 E) (λc ο H'=>E c none H'):=by
 intro pins σ H s s' ea cls H' B I os bare un hok fly hK;have I':=I.call' (s':=s') (ch:=[]) os un hok bare (λb z=>absurd z (by simp));have hfr:=I.ok.frames;have hstk:(iE (kG P w) P w K mg base N qual scope f cd A outer s0 H0 E).stack=envOfC qual scope s0.heap.objs.size f cd::outer:=rfl;rw[hstk] at hfr;obtain⟨a0,hfl⟩:=fly.fl;have hf:(envOfC qual scope s0.heap.objs.size f cd).frame=some s0.heap.objs.size:=rfl;show wpAny _ _ (leaving (envOfC qual scope s0.heap.objs.size f cd) (.ref ea)) _ _ s';refine RI hfr hf hfl fly.nc λh' fl' up nc'=>?_;have hfs:VD (envOfC qual scope s0.heap.objs.size f cd::outer)=s0.heap.objs.size::VD outer:=V5 hf;have nf:∀b o,s0.heap.get? b=some o->b∉VD outer->b∉VD (envOfC qual scope s0.heap.objs.size f cd::outer):=λb o e n z=>by
  rw[hfs] at z;rcases wA.mp z with z|z
  ·exact absurd (GA e) (by rw[z];exact lC _)
  ·exact n z
 have stay:∀b o,s0.heap.get? b=some o->H0 b=none->b∉VD outer->B.get? b=some o:=λb o e n hb=>
  fly.kept b o (I.base.keep b o e n hb (by intro z;exact absurd z (by simp[iE]))) (I.base.free b o e n (by intro z;exact absurd z (by simp[iE]))) (nf b o e hb)
 have live:∀b o,s0.heap.get? b=some o->b∉VD outer->∃o',B.get? b=some o':=λb o e hb=>by
  obtain⟨o1,e1⟩:=I.base.there b o e (by intro z;exact absurd z (by simp[iE]));exact fly.alive b o1 e1 (nf b o e hb)
 refine⟨ea,cls,H',B,rfl,I'.os,bare,?_,hok.flown fly.trk hfl.1 fl'.1,⟨⟨a0,fl'⟩,fly.trk,stay,live,nc'⟩,hK⟩;have noA:∀b:Addr,b∉(iE (kG P w) P w K mg base N qual scope f cd A outer s0 H0 E).ex:=λb z=>absurd z (by simp[iE]);have slotOf:∀b,b∈VD outer->∀o,s'.heap.get? b=some o->∃sl,h'.get? b=some {o with slots:=sl}:=λb hb o e=>by
  have hm:b∈VD (envOfC qual scope s0.heap.objs.size f cd::outer):=by rw[hfs];exact fA _ hb
  obtain⟨_,o',ho',hd⟩:=hfl.2.2.1.mem hm;rw[e] at ho';cases ho';exact up b o e hd
 refine⟨λb o e n hb ο=>fl'.1 b o (stay b o e n hb),λb o e n hb ο=>?_,λb o e n ο=>I'.base.free b o e n (noA b),λb o e ο=>?_,I'.base.tups,I'.base.frzs,I'.base.tbls⟩
 ·obtain⟨sl,e1⟩:=I'.base.slot b o e n hb (noA b);obtain⟨sl',e2⟩:=slotOf b hb _ e1;exact⟨sl',e2⟩
 ·by_cases hb:b∈VD outer
  ·obtain⟨o1,e1⟩:=I'.base.there b o e (noA b);obtain⟨sl,e2⟩:=slotOf b hb _ e1;exact⟨_,e2⟩
  ·obtain⟨o1,e1⟩:=live b o e hb;exact⟨o1,fl'.1 b o1 e1⟩
noncomputable def KD (P:Program) (w:World) (K:PySem.W.Frag) (mg:Str->Option Value) (base:Heap) (x:Str) (k:Nat) (ps:List Str) (dvs:List V) (sp:Sp):Prop:=
 ∃f fd ds,mg x=some (.ref f)/\PySem.W.keepIn K (.ref f)=true/\bE K fd ps ds/\GC dvs ds/\QE P w K mg base (kG P w) k f fd ps sp
noncomputable def TC (P:Program) (w:World) (K:PySem.W.Frag) (mg:Str->Option Value) (base:Heap) (C:Addr) (m:Str) (k:Nat) (ps:List Str) (dvs:List V) (sp:Sp):Prop:=
 ∃f fd ds,JG K C m f/\bE K fd ps ds/\GC dvs ds/\QE P w K mg base (kG P w) k f fd ps sp
noncomputable def DF (P:Program) (w:World) (K:PySem.W.Frag) (mg:Str->Option Value) (base:Heap) (x:Str) (C:Addr) (k:Nat) (ps:List Str) (dvs:List V) (sp:Sp):Prop:=
 ∃f fd ds,mg x=some (.ref C)/\Mk K C f/\bE K fd ps ds/\GC dvs ds/\QE P w K mg base (kG P w) k f fd ps sp
noncomputable def MG (Kx:XKs) (sp:Sp) (dvs:List V) (t:TA):TE:=λσ H Q=>t σ H λvs H1=>sp (vs++dvs) H1 Q (λc ο H'=>Kx c σ H')
noncomputable def NG (Kx:XKs) (C:Addr) (m:Str) (sp:Sp) (dvs:List V) (ta:TE) (t:TA):TE:=λσ H Q=>ta σ H λx H1=>∃a dx fs,x=.ref a/\H1 a=some (.ins C dx fs)/\fs.lookup m=none/\
 t σ H1 λvs H2=>sp (x::(vs++dvs)) H2 Q (λc ο H'=>Kx c σ H')
noncomputable def OG (Kx:XKs) (C:Addr) (sp:Sp) (dvs:List V) (t:TA):TE:=λσ H Q=>t σ H λvs H1=>∀x dx,H1 x=none->H1 dx=none->dx≠x->
 sp (.ref x::(vs++dvs)) (yC (yC H1 dx (.own x)) x (.ins C dx [])) (λv H2=>v=.non/\Q (.ref x) H2) (λc ο H'=>Kx c σ H')
section
variable {X:Cx} {Kx:XKs} {k:Nat} {f C:Addr} {fd:FuncData} {ps:List Str} {sp:Sp} {dvs:List V} {ds:List Value} {x m:Str} {p pos apos:Pos} {e o:Expr} {es:List Expr} {ta:TE} {t:TA}
theorem ZT {pins:List (Addr×Obj)} {σ:St} {H:Hp} {s:Shared} {Q:VK} {us:List Value} {vs:List V} (F:QE X.prog X.w X.K X.mg X.base (kG X.prog X.w) k f fd ps sp) (hr:PD k X.A) (hb:bE X.K fd ps ds) (hd:GC dvs ds) (hx:XW X Kx)
  (I:wC X pins σ H s) (r:GC vs us) (h:sp (vs++dvs) H Q (λc ο H'=>Kx c σ H')):wpAny (model X.prog X.w) X.A (call (.ref f) us) (EP X pins σ Q) X.xe s:=by
 have r2:GC (vs++dvs) (us++ds):=r.append hd;have hl:(us++ds).length=ps.length:=by rw[<-r2.length];exact F.len _ _ _ _ h
 refine wpAny_call (codeAny_mono (F.run X.A X.stack s H ⟨us,[]⟩ (us++ds) (vs++dvs) Q _ hr I.env0 (hb s us I.kIn hl) r2 h) λr s' hq=>?_);cases r with
 |error e=>
  obtain⟨ea,cls,H',B,rfl,os,bare,un,hok,fly,hK⟩:=hq;exact hx pins σ H s s' ea cls H' B I os bare un hok fly hK
 |ok fl=>
  cases fl with
  |ret u=>exact I.after hq
  |next=>exact False.elim hq
  |brk=>exact False.elim hq
  |cont=>exact False.elim hq
theorem lD (F:KD X.prog X.w X.K X.mg X.base x k ps dvs sp) (hr:PD k X.A) (hx:XW X Kx) (ha:PA X (e::es) t) (hg:Gl X x:=by rfl) (hdb:(x == ("__debug__":Str))=false:=by decide)
  (he:starEach (e::es) X.env=(false,eval e X.env)::starEach es X.env:=by rfl) (hpl:(backTo pos (starEach es X.env)).any (·.1)=false:=by rfl):
  PE X (.Call (.Name x p) (e::es) [] pos) (MG Kx sp dvs t):=by
 obtain⟨f,fd,ds,hm,hk,hb,hd,F⟩:=F;intro pins s σ H Q I h;refine gC (AK I hg hm ?_ hdb);refine PySem.W.callWith_K (h₀:=X.base) I.ok.mod.kin hk (pD (ha pos pins s σ H _ I h) λus s1 ⟨vs,H1,I1,r,q⟩=>⟨I1.kIn,?_⟩) he hpl;exact ZT F hr hb hd hx I1 r q
theorem TD {pl:Sem Bool} (ho:PE X o ta) (c:BG X.K C) (F:TC X.prog X.w X.K X.mg X.base C m k ps dvs sp) (hr:PD k X.A) (hx:XW X Kx) (ha:PA X (e::es) t)
  (hst:starEach (e::es) X.env=(false,eval e X.env)::starEach es X.env:=by rfl) (hpl:(backTo pos (starEach es X.env)).any (·.1)=false:=by rfl)
  (ht:eval (.Call (.Attribute o m apos) (e::es) [] pos) X.env=(do
   let ov<-eval o X.env
   standAt apos.atName
   let (f,first)<-holding [ov] (getMethod ov m pl)
   callWith pos f first (backTo pos (starEach (e::es) X.env)) (backToKw pos (keywordEach [] X.env))):=by rfl):
  PE X (.Call (.Attribute o m apos) (e::es) [] pos) (NG Kx C m sp dvs ta t):=by
 obtain⟨f,fd,ds,hm,hb,hd,F⟩:=F;intro pins s σ H Q I h;refine PySem.W.methodCall_KW (pl:=pl) (pD (ho pins s σ H _ I h) λu s1 zz=>?_) ht;obtain⟨x,H1,I1,rx,a,dx,fs,ex,ea,l,q⟩:=zz;subst ex;obtain rfl:u=Value.ref a:=rx;refine m4 I1 ea c hm l ?_;refine PySem.W.callWith_K (first:=[.ref a]) (h₀:=X.base) I.ok.mod.kin hm.kp (pD (ha pos pins s1 σ H1 _ I1 q) λus s2 ⟨vs,H2,I2,r,q2⟩=>⟨I2.kIn,?_⟩) hst hpl;exact ZT (us:=.ref a::us) (vs:=.ref a::vs) F hr hb hd hx I2 (.cons rfl r) q2
theorem YN {pl:Sem Bool} (ho:PE X o ta) (c:BG X.K C) (F:TC X.prog X.w X.K X.mg X.base C m k ps dvs sp) (hr:PD k X.A) (hx:XW X Kx)
  (ht:eval (.Call (.Attribute o m apos) [] [] pos) X.env=(do
   let ov<-eval o X.env
   standAt apos.atName
   let (f,first)<-holding [ov] (getMethod ov m pl)
   callWith pos f first (backTo pos (starEach [] X.env)) (backToKw pos (keywordEach [] X.env))):=by rfl):
  PE X (.Call (.Attribute o m apos) [] [] pos) (NG Kx C m sp dvs ta tNil):=by
 obtain⟨f,fd,ds,hm,hb,hd,F⟩:=F;intro pins s σ H Q I h;refine PySem.W.methodCall_KW (pl:=pl) (pD (ho pins s σ H _ I h) λu s1 zz=>?_) ht;obtain⟨x,H1,I1,rx,a,dx,fs,ex,ea,l,q⟩:=zz;subst ex;obtain rfl:u=Value.ref a:=rx;refine m4 I1 ea c hm l ?_;exact PySem.W.callWith_K0 (first:=[.ref a]) I1.kIn hm.kp (ZT (us:=[.ref a]) (vs:=[.ref a]) F hr hb hd hx I1 (.cons rfl .nil) q)
theorem W5 {pins:List (Addr×Obj)} {σ:St} {H:Hp} {s:Shared} {Q:VK} {us:List Value} {vs:List V} (M:Mk X.K C f) (F:QE X.prog X.w X.K X.mg X.base (kG X.prog X.w) k f fd ps sp) (hr:PD (k+1) X.A) (hb:bE X.K fd ps ds) (hd:GC dvs ds)
  (hx:XW X Kx) (I:wC X pins σ H s) (r:GC vs us)
  (h:∀x dx,H x=none->H dx=none->dx≠x->sp (.ref x::(vs++dvs)) (yC (yC H dx (.own x)) x (.ins C dx [])) (λv H2=>v=.non/\Q (.ref x) H2) (λc ο H'=>Kx c σ H')):
  wpAny (model X.prog X.w) X.A (call (.ref C) us) (EP X pins σ Q) X.xe s:=by
 have hq:=h (s.heap.objs.size+1) s.heap.objs.size (I.hok.fresh (Nat.le_succ _)) (I.hok.fresh (iA _)) (cB (Nat.lt_succ_self _));have I2:=wC.made (C:=C) I;have r2:GC (V.ref (s.heap.objs.size+1)::(vs++dvs)) (Value.ref (s.heap.objs.size+1)::(us++ds)):=.cons rfl (r.append hd);have hl:(Value.ref (s.heap.objs.size+1)::us++ds).length=ps.length:=by
  have e:=r2.length;rw[F.len _ _ _ _ hq] at e;exact e.symm
 refine wpAny_call (lg (f:=f) I.kIn M.makes M.init (RB.mp M.fn) (codeAny_mono (F.run _ X.stack _ _ ⟨Value.ref (s.heap.objs.size+1)::us,[]⟩ (Value.ref (s.heap.objs.size+1)::(us++ds)) _ _ _ (hr.make C us [])
  (I2.env0.make C us []) (hb _ (Value.ref (s.heap.objs.size+1)::us) I2.kIn hl) r2 hq) λr s' hq'=>?_))
 cases r with
 |error e=>
  obtain⟨ea,cls,H',B,rfl,os,bare,un,hok,fly,hK⟩:=hq';exact hx pins σ _ _ s' ea cls H' B I2 os bare un hok fly hK
 |ok fl=>
  cases fl with
  |ret u=>
   obtain⟨v,H',I3,rv,ev,q3⟩:=I2.after hq';subst ev;exact⟨rv,⟨V.ref (s.heap.objs.size+1),H',I3,rfl,q3⟩⟩
  |next=>exact False.elim hq'
  |brk=>exact False.elim hq'
  |cont=>exact False.elim hq'
theorem X5 (F:DF X.prog X.w X.K X.mg X.base x C k ps dvs sp) (hr:PD (k+1) X.A) (hx:XW X Kx) (ha:PA X (e::es) t) (hg:Gl X x:=by rfl) (hdb:(x == ("__debug__":Str))=false:=by decide)
  (he:starEach (e::es) X.env=(false,eval e X.env)::starEach es X.env:=by rfl) (hpl:(backTo pos (starEach es X.env)).any (·.1)=false:=by rfl):
  PE X (.Call (.Name x p) (e::es) [] pos) (OG Kx C sp dvs t):=by
 obtain⟨f,fd,ds,hm,M,hb,hd,F⟩:=F;intro pins s σ H Q I h;refine gC (AK I hg hm ?_ hdb);refine PySem.W.callWith_K (h₀:=X.base) I.ok.mod.kin M.kp (pD (ha pos pins s σ H _ I h) λus s1 ⟨vs,H1,I1,r,q⟩=>⟨I1.kIn,?_⟩) he hpl;exact W5 M F hr hb hd hx I1 r q
theorem Y5 (F:DF X.prog X.w X.K X.mg X.base x C k ps dvs sp) (hr:PD (k+1) X.A) (hx:XW X Kx) (hg:Gl X x:=by rfl) (hdb:(x == ("__debug__":Str))=false:=by decide):
  PE X (.Call (.Name x p) [] [] pos) (OG Kx C sp dvs tNil):=by
 obtain⟨f,fd,ds,hm,M,hb,hd,F⟩:=F;intro pins s σ H Q I h;refine gC (AK I hg hm ?_ hdb);exact PySem.W.callWith_K0 I.kIn M.kp (W5 (us:=[]) M F hr hb hd hx I .nil h)
theorem PH {v:V} (hg:Gl X x) (hm:∃u,X.mg x=some u/\FC v u) (hd:(x == ("__debug__":Str))=false:=by decide):PE X (.Name x pos) (tC v):=by
 obtain⟨u,hm,r⟩:=hm;exact Uf hg hm r hd
theorem kH {n:String} (hg:Gl X x) (hm:X.mg x=none) (hv:bootBuiltins x=some (.type n)) (hn:x≠"__name__":=by decide) (hd:(x == ("__debug__":Str))=false:=by decide):PE X (.Name x pos) (tC (.ty n)):=Vf hg hm hv rfl hn hd
end
noncomputable def EE (K:PySem.W.Frag) (mg:Str->Option Value) (x qual:Str) (st:Stmt) (ps:List Str) (dvs:List V):Prop:=∃f fd ds,mg x=some (.ref f)/\sG K x qual st f fd/\bE K fd ps ds/\GC dvs ds
noncomputable def CD (K:PySem.W.Frag) (C:Addr) (m qual:Str) (st:Stmt) (ps:List Str) (dvs:List V):Prop:=∃f fd ds,JG K C m f/\sG K m qual st f fd/\bE K fd ps ds/\GC dvs ds
noncomputable def lH (K:PySem.W.Frag) (mg:Str->Option Value) (x:Str) (C:Addr) (qual:Str) (st:Stmt) (ps:List Str) (dvs:List V):Prop:=∃f fd ds,mg x=some (.ref C)/\Mk K C f/\sG K "__init__" qual st f fd/\bE K fd ps ds/\GC dvs ds
section
variable {P:Program} {w:World} {K:PySem.W.Frag} {mg:Str->Option Value} {base:Heap}
noncomputable def EF (P:Program) (w:World) (K:PySem.W.Frag) (mg:Str->Option Value) (base:Heap) (qual:Str) (st:Stmt) (N:List Str) (k:Nat) (sp:Sp):Prop:=
 ∀(f:Addr) (cdv:Value) (A:Around) (outer:List Env) (s:Shared) (H:Hp) (vs:List V) (Q:VK) (E:XK),PD k (A.deeper (envOfC qual (mC st) s.heap.objs.size f cdv))->sp vs H Q E->
  ∃t,TF (iE (kG P w) P w K mg base N qual (mC st) f cdv A outer s H E) (zC st) t/\t {nx:=λο H'=>Q .non H',rt:=Q} (fE N vs) H
theorem sG.okE {x qual:Str} {st:Stmt} {f:Addr} {fd:FuncData} {N ps:List Str} {k:Nat} {sp:Sp} (F:sG K x qual st f fd) (S:qC N ps (mC st)) (len:∀vs H Q E,sp vs H Q E->vs.length=ps.length)
  (hbody:EF P w K mg base qual st N k sp):QE P w K mg base (kG P w) (k+1) f fd ps sp:=by
 obtain⟨oc,od,kV,doc,pm,an,cdv,ct,osl,rfl,lk,hcd⟩:=F.ex;exact IT lk hcd S len λA outer s H vs Q E hr hsp=>hbody f cdv A outer s H vs Q E hr hsp
theorem EE.have {x qual:Str} {st:Stmt} {N ps:List Str} {dvs:List V} {k:Nat} {sp:Sp} (R:EE K mg x qual st ps dvs) (S:qC N ps (mC st)) (len:∀vs H Q E,sp vs H Q E->vs.length=ps.length)
  (hbody:EF P w K mg base qual st N k sp):KD P w K mg base x (k+1) ps dvs sp:=
 let ⟨f,fd,ds,hm,F,hb,hd⟩:=R
 ⟨f,fd,ds,hm,F.kp,hb,hd,F.okE S len hbody⟩
theorem CD.have {C:Addr} {m qual:Str} {st:Stmt} {N ps:List Str} {dvs:List V} {k:Nat} {sp:Sp} (R:CD K C m qual st ps dvs) (S:qC N ps (mC st)) (len:∀vs H Q E,sp vs H Q E->vs.length=ps.length)
  (hbody:EF P w K mg base qual st N k sp):TC P w K mg base C m (k+1) ps dvs sp:=
 let ⟨f,fd,ds,hm,F,hb,hd⟩:=R
 ⟨f,fd,ds,hm,hb,hd,F.okE S len hbody⟩
theorem lH.have {C:Addr} {x qual:Str} {st:Stmt} {N ps:List Str} {dvs:List V} {k:Nat} {sp:Sp} (R:lH K mg x C qual st ps dvs) (S:qC N ps (mC st)) (len:∀vs H Q E,sp vs H Q E->vs.length=ps.length)
  (hbody:EF P w K mg base qual st N k sp):DF P w K mg base x C (k+1) ps dvs sp:=
 let ⟨f,fd,ds,hm,M,F,hb,hd⟩:=R
 ⟨f,fd,ds,hm,M,hb,hd,F.okE S len hbody⟩
end
end L2
namespace L2
open PySem PySem.Spec PyProof.Rows
noncomputable def XR (X:Cx) (K:XKs):Prop:=∀(pins:List (Addr×Obj)) (σ:St) (H:Hp) (s:Shared) (h':Heap) (e:Addr) (cls:Value) (args:List Value),wC X pins σ H s->Heap.MadeExcOf s.heap h' e cls args->K cls σ H->X.xe (.ref e) {s with heap:=h'}
theorem wE.alive {P:Program} {w:World} {H:Hp} {h:Heap} (x:wE P w H h) {b:Addr} {u:HO} (e:H b=some u):∃o,h.get? b=some o:=by
 have q:=x b u e;cases u with
 |lst xs=>obtain⟨_,_,_,_,e⟩:=q;exact⟨_,e⟩
 |tup xs=>obtain⟨_,_,_,⟨o,e,_⟩⟩:=q;exact⟨_,e⟩
 |dK kvs=>obtain⟨_,_,_,_,o,_,_,e,_⟩:=q;exact⟨_,e⟩
 |dT kvs=>obtain⟨_,_,_,_,o,_,_,e,_⟩:=q;exact⟨_,e⟩
 |set S n=>obtain⟨o,_,_,_,e,_⟩:=q;exact⟨_,e⟩
 |ins C dx fs=>obtain⟨_,_,_,e,_⟩:=q;exact⟨_,e⟩
 |own y=>exact q
 |xd fs=>obtain⟨_,⟨_,_,_,e,_⟩,_⟩:=q;exact⟨_,e⟩
 |rng lo hi=>obtain⟨_,_,_,e⟩:=q;exact⟨_,e⟩
 |frz ob u=>obtain⟨e,_⟩:=q;exact⟨_,e⟩
 |tbl ps=>exact⟨_,q⟩
 |met f y=>exact⟨_,q⟩
 |ext φ=>obtain⟨_,e,_⟩:=q;exact e
theorem AH {P:Program} {w:World} {K:PySem.W.Frag} {mg:Str->Option Value} {base:Heap} {N:List Str} {qual:Str} {scope:Scope} {f:Addr} {cd:Value} {A:Around} {outer:List Env} {s0:Shared} {H0:Hp} {E:XK}:
  XR (iE (kG P w) P w K mg base N qual scope f cd A outer s0 H0 E) (λc ο H'=>E c none H'):=by
 intro pins σ H s h1 ea cls args I mk hK;have hfr:=I.ok.frames;have hstk:(iE (kG P w) P w K mg base N qual scope f cd A outer s0 H0 E).stack=envOfC qual scope s0.heap.objs.size f cd::outer:=rfl;have hfun:=I.stack;have hfree:=I.stkFree;rw[hstk] at hfr hfun hfree;have hf:(envOfC qual scope s0.heap.objs.size f cd).frame=some s0.heap.objs.size:=rfl;have hfs:VD (envOfC qual scope s0.heap.objs.size f cd::outer)=s0.heap.objs.size::VD outer:=V5 hf;have noA:∀b:Addr,b∉(iE (kG P w) P w K mg base N qual scope f cd A outer s0 H0 E).ex:=λb z=>absurd z (by simp[iE]);have nf:∀b o,s0.heap.get? b=some o->b∉VD outer->b∉VD (envOfC qual scope s0.heap.objs.size f cd::outer):=λb o e n z=>by
  rw[hfs] at z;rcases wA.mp z with z|z
  ·exact absurd (GA e) (by rw[z];exact lC _)
  ·exact n z
 show wpAny _ _ (leaving (envOfC qual scope s0.heap.objs.size f cd) (.ref ea)) _ _ _;refine tG (B:=PySem.W.hideAll s.heap (VD (envOfC qual scope s0.heap.objs.size f cd::outer))) (h:=s.heap) hfr hf (λb o q=>PySem.W.of_hideAll _ q)
  (PySem.W.funFrames_hide hfun λenv he b hb=>eC.mpr ⟨env,he,hb⟩) mk λh' t fl' up nc'=>?_
 have inB:∀b o,s.heap.get? b=some o->b∉VD (envOfC qual scope s0.heap.objs.size f cd::outer)->(PySem.W.hideAll s.heap (VD (envOfC qual scope s0.heap.objs.size f cd::outer))).get? b=some o:=λb o e n=>PySem.W.hideAll_get _ e n;have stay:∀b o,s0.heap.get? b=some o->H0 b=none->b∉VD outer->(PySem.W.hideAll s.heap (VD (envOfC qual scope s0.heap.objs.size f cd::outer))).get? b=some o:=λb o e n hb=>
  inB b o (I.base.keep b o e n hb (noA b)) (nf b o e hb)
 have live:∀b o,s0.heap.get? b=some o->b∉VD outer->∃o',(PySem.W.hideAll s.heap (VD (envOfC qual scope s0.heap.objs.size f cd::outer))).get? b=some o':=λb o e hb=>by
  obtain⟨o1,e1⟩:=I.base.there b o e (noA b);exact⟨o1,inB b o1 e1 (nf b o e hb)⟩
 have trk:∀b u,H b=some u->∃o,(PySem.W.hideAll s.heap (VD (envOfC qual scope s0.heap.objs.size f cd::outer))).get? b=some o:=λb u e=>by
  obtain⟨o,ho⟩:=I.hok.alive e;exact⟨o,inB b o ho λz=>by rw[hfree b z] at e;cases e⟩
 have slotOf:∀b,b∈VD outer->∀o,s.heap.get? b=some o->∃sl,h'.get? b=some {o with slots:=sl}:=λb hb o e=>by
  have hm:b∈VD (envOfC qual scope s0.heap.objs.size f cd::outer):=by rw[hfs];exact fA _ hb
  obtain⟨_,o',ho',hd⟩:=hfun.mem hm;rw[e] at ho';cases ho';exact up b o (mk.keeps b o e) hd
 refine⟨ea,cls,H,_,rfl,I.os,I.bare,?_,I.hok.flown trk (λb o q=>PySem.W.of_hideAll _ q) fl'.1,⟨⟨_,fl'⟩,trk,stay,live,nc'⟩,hK⟩;refine⟨λb o e n hb ο=>fl'.1 b o (stay b o e n hb),λb o e n hb ο=>?_,λb o e n ο=>I.base.free b o e n (noA b),λb o e ο=>?_,I.base.tups,I.base.frzs,I.base.tbls⟩
 ·obtain⟨sl,e1⟩:=I.base.slot b o e n hb (noA b);obtain⟨sl',e2⟩:=slotOf b hb _ e1;exact⟨sl',e2⟩
 ·by_cases hb:b∈VD outer
  ·obtain⟨o1,e1⟩:=I.base.there b o e (noA b);obtain⟨sl,e2⟩:=slotOf b hb _ e1;exact⟨_,e2⟩
  ·obtain⟨o1,e1⟩:=live b o e hb;exact⟨o1,fl'.1 b o1 e1⟩
abbrev JE:List Value:=[.type "ValueError",.type "Exception",.type "BaseException",.type "object"]
structure XC (K:PySem.W.Frag) (mg:Str->Option Value) (x:Str) (C:Addr):Prop where
 m:mg x=some (.ref C)
 ex:PySem.W.excIn K C JE "ValueError.__new__"=true
set_option tactic.hygienic true in
theorem uh {K:PySem.W.Frag} {h:Heap} {C:Addr} {l:List Value} {id:String} (hin:K.In h) (q:PySem.W.excIn K C l id=true):
  ∃bm N nm qn bs hdct sn sub ab col dd k0 k1 k2 k3 k5 mN,h.get? C=some (excClassObj nm qn C N bs bm hdct sn sub ab col dd k0 k1 k2 k3 k5 id)/\h.Ns N mN/\mN "__init__"=none/\OwnTail h l bm:=by
 unfold PySem.W.excIn at q
 split at q
 case h_2=>cases q
 case h_1 dd cd sl ho=>
  split at q
  case h_2=>cases q
  case h_1 C' bm k0 k1 k2 k3 n k5 hm hs=>
   rw[ZA,ZA,ZA,ZA,ZA] at q;obtain⟨⟨⟨⟨⟨q1,q2⟩,q3⟩,q4⟩,q5⟩,q6⟩:=q;have e1:=RB.mp q1;have e2:=RB.mp q2;have e6:=RB.mp q6;subst e1 e2;obtain⟨nm,bs,mro,ns,qn,hd,sn,sub,ab,col,del⟩:=cd;have e3:del=false:=by
    cases del with
    |false=>rfl
    |true=>cases q3
   have hm':mro=.ref C'::bm:=hm;subst e3 hm';obtain⟨l'⟩:=sl;have hs':l'=[k0,k1,k2,k3,some (.builtin n),k5]:=hs;subst hs';exact⟨bm,ns,nm,qn,bs,hd,sn,sub,ab,col,dd,k0,k1,k2,k3,k5,_,hin _ _ ho,.of_isNs (PySem.W.isNs_of_in hin q5),PySem.W.nsMap_none_of_in hin q5 e6,PySem.W.tail_of_in hin q4⟩
noncomputable def QH (Kx:XKs) (C:Addr) (t:TA):TS:=λο σ H=>t σ H λvs H1=>vs.length<=sizeLine/\Kx (.ref C) σ H1
theorem BH {X:Cx} {Kx:XKs} {C:Addr} {x:Str} {np cpos pos:Pos} {e:Expr} {es:List Expr} {t:TA} (hx:XR X Kx) (hc:X.calm=true) (c:XC X.K X.mg x C) (ha:PA X (e::es) t) (hg:Gl X x:=by rfl) (hd:(x == ("__debug__":Str))=false:=by decide)
  (he:starEach (e::es) X.env=(false,eval e X.env)::starEach es X.env:=by rfl) (hpl:(backTo cpos (starEach es X.env)).any (·.1)=false:=by rfl):
  PS X (.Raise (some (.Call (.Name x np) (e::es) [] cpos)) none pos) (QH Kx C t):=by
 intro pins s σ H D I h;obtain⟨bm,N,nm,qn,bs,hdct,sn,sub,ab,col,dd,k0,k1,k2,k3,k5,mN,hC,hN,hni,T⟩:=uh I.mod.kin c.ex;refine wpAny_Raise_call_subT (C:=C) (nm:=nm) (q:=qn) (N:=N) (bs:=bs) (bm:=bm) (hdct:=hdct) (sn:=sn) (sub:=sub) (ab:=ab) (col:=col) (dd:=dd) (k0:=k0) (k1:=k1) (k2:=k2) (k3:=k3) (k5:=k5) (mN:=mN) PySem.F.excBase_ValueError (T.hasType PySem.F.excBase_ValueError.hasBase) (I.ok.hd hc) (by rw[he];show (false || (backTo cpos (starEach es X.env)).any (·.1))=false;rw[hpl];rfl) hni
  (AK I hg c.m ⟨rfl,?_⟩ hd)
 have q:=ha cpos pins s σ H _ I h;rw[he] at q ⊢;refine Calls.evalArgs_plain (rB q (λus s2 hq=>?_) λο ο y=>y);obtain⟨vs,H1,I1,r,hl,hk⟩:=hq;exact⟨rfl,by rw[<-r.length];exact hl,I1.bk _ _ hC,hN.keeps I1.bk,T.keeps I1.bk,λh' ea mk=>hx pins σ H1 s2 h' ea (.ref C) us I1 mk hk⟩
theorem wC.flown {X:Cx} {pins:List (Addr×Obj)} {σ:St} {H H':Hp} {s s':Shared} {B h5:Heap} {ea:Addr} {cls:Value} (I:wC X pins σ H s) (I':wC X pins σ H' s') (fly:IR B X.stack s.heap H H' s'.heap ea cls)
  (st:B.StaysIn h5) (up:s'.heap.UpToSlots h5):wC X pins σ H' {s' with heap:=h5}:=by
 obtain⟨a0,hfl⟩:=fly.fl;have nf:∀b,b∉X.fs->b≠X.env.locals->b∉VD X.stack:=λb h1 h2 z=>by
  rcases wA.mp (I.stkSub b z) with q|q
  ·exact h2 q
  ·exact h1 q
 have lt0:∀b o,X.s₀.heap.get? b=some o->b≠X.env.locals:=λb o e=>cB (JA (GA e) I.ok.above);have cellK:∀{c:Addr} {v:Option Value},s'.heap.IsCell c v->h5.IsCell c v:=λ{c v} ⟨o,ho,hd⟩=>by
  obtain⟨sl,e⟩:=up c o ho λvs z=>by rw[hd] at z;cases z
  exact⟨_,e,hd⟩
 have slotOf:∀b,b∈X.fs->∀o,s'.heap.get? b=some o->∃sl,h5.get? b=some {o with slots:=sl}:=λb hb o e=>by
  obtain⟨_,o',ho',hd⟩:=I'.funs.mem hb;rw[e] at ho';cases ho';exact up b o e hd
 refine⟨I'.ok,I'.os,I'.bare,⟨λb o e n hb hx=>?_,λb o e n hb hx=>?_,I'.base.free,λb o e hx=>?_,I'.base.tups,I'.base.frzs,I'.base.tbls⟩,?_,λx c e=>?_,I'.free,I'.freeC,λp hp=>?_,I'.hok.flown fly.trk hfl.1 st,I'.len⟩
 ·exact st b o (fly.kept b o (I.base.keep b o e n hb hx) (I.base.free b o e n hx) (nf b hb (lt0 b o e)))
 ·obtain⟨sl,e1⟩:=I'.base.slot b o e n hb hx;obtain⟨sl',e2⟩:=slotOf b hb _ e1;exact⟨sl',e2⟩
 ·by_cases hb:b∈X.fs
  ·obtain⟨o1,e1⟩:=I'.base.there b o e hx;obtain⟨sl,e2⟩:=slotOf b hb _ e1;exact⟨_,e2⟩
  ·obtain⟨o1,e1⟩:=I.base.there b o e hx;obtain⟨o2,e2⟩:=fly.alive b o1 e1 (nf b hb (lt0 b o e));exact⟨o2,st b o2 e2⟩
 ·obtain⟨m,hn,hl⟩:=I'.loc;refine⟨m,up.ns hn,λi x v e1 e2 e3=>?_⟩;obtain⟨u,r,l⟩:=hl i x v e1 e2 e3;refine⟨u,r,?_⟩;rcases l with l|⟨k,c,e,z⟩
  ·exact .inl l
  ·exact .inr ⟨k,c,e,cellK z⟩
 ·obtain⟨v,z⟩:=I'.cell x c e;exact⟨v,cellK z⟩
 ·obtain⟨e,n,ne,nfs,d⟩:=I.pin p hp;obtain⟨_,n',_,_,_⟩:=I'.pin p hp;exact⟨st _ _ (fly.kept p.1 p.2 e n (nf p.1 nfs ne)),n',ne,nfs,d⟩
noncomputable def rF (a:Addr) (C:Addr):HO:=.ext λh=>∃o vs,h.get? a=some o/\o.cls=.ref C/\o.data=.fields vs/\vs[2]?=some .none
theorem wC.track {X:Cx} {pins:List (Addr×Obj)} {σ:St} {H:Hp} {s:Shared} {a:Addr} {u:HO} (I:wC X pins σ H s) (hn:H a=none) (hL:a≠X.env.locals) (h0:∀o,X.s₀.heap.get? a=some o->a∈X.ex)
  (hc:∀x c,X.env.cells.lookup x=some c->c≠a) (hp:∀p∈X.pn++pins,p.1≠a) (ok:∀H',iD X.prog X.w H' s.heap a u):wC X pins σ (yC H a u) s:=by
 refine⟨I.ok,I.os,I.bare,⟨I.base.keep,I.base.slot,λb o e n hx=>?_,I.base.there,λb xs e=>?_,λb o xs e=>?_,λb ps e=>?_⟩,I.loc,I.cell,?_,λx c e=>?_,λp hq=>?_,λb o e=>?_,I.len⟩
 ·have hb:b≠a:=λz=>hx (by rw[z] at e ⊢;exact h0 o e);rw[WC hb];exact I.base.free b o e n hx
 ·have q:=I.base.tups b xs e;rw[WC (AE q hn)];exact q
 ·have q:=I.base.frzs b o xs e;rw[WC (AE q hn)];exact q
 ·obtain⟨more,q⟩:=I.base.tbls b ps e;exact⟨more,by rw[WC (AE q hn)];exact q⟩
 ·rw[WC (Ne.symm hL)];exact I.free
 ·rw[WC (hc x c e)];exact I.freeC x c e
 ·obtain⟨e,n,r⟩:=I.pin p hq;exact⟨e,by rw[WC (hp p hq)];exact n,r⟩
 ·by_cases hb:b=a
  ·subst hb;rw[SC] at e;cases e;exact ok _
  ·rw[WC hb] at e;exact (I.hok b o e).stay (λc v ο q=>q) (λc q=>by rw[WC (AE q hn)];exact q) λc xs q=>by rw[WC (AE q hn)];exact q
theorem wC.nameGone {X:Cx} {pins:List (Addr×Obj)} {σ:St} {H:Hp} {s:Shared} {i:Nat} {n:Str} {pos:Pos} {M:Model} {A:Around} {E:Value->Shared->Prop} {Q:Unit->Shared->Prop} (I:wC X pins σ H s) (hN:X.N.Nodup) (hi:X.N[i]?=some n)
  (hl:X.env.kindOf n=some .local) (h:∀s',wC X pins (σ.set i none) H s'->Q () s'):wpAny M A (do bindName X.env n .none;unbindBehindTheSuite X.env n pos) Q E s:=by
 obtain⟨m,hn,hv⟩:=id I.loc;have hcls:(X.env.scope.kind == .class || (X.env.scope.kind == .module&&X.env.locals != X.env.globals))=false:=by rw[I.ok.kind];rfl
 have cne:=I.cne;have hiσ:i < σ.length:=by rw[I.len];exact (LA.mp hi).1
 refine wpAny_nameGoes_keeps hl hn hcls λh' v hn' hs=>?_;obtain⟨oL,_,_,hoL,_⟩:=id hn;refine h _ ⟨I.ok,I.os,I.bare,⟨λb o e n hb hx=>?_,λb o e n hb hx=>?_,I.base.free,λb o e hx=>?_,I.base.tups,I.base.frzs,I.base.tbls⟩,⟨_,hn',λj y v' e1 e2 e3=>?_⟩,λy c e=>?_,I.free,I.freeC,λp hp=>?_,λb ob e=>?_,by simpa using I.len⟩
 ·exact (hs.2 b (cB (JA (GA e) I.ok.above))).trans (I.base.keep b o e n hb hx)
 ·obtain⟨sl,e1⟩:=I.base.slot b o e n hb hx;exact⟨sl,(hs.2 b (cB (JA (GA e) I.ok.above))).trans e1⟩
 ·obtain⟨o',e1⟩:=I.base.there b o e hx;exact⟨o',(hs.2 b (cB (JA (GA e) I.ok.above))).trans e1⟩
 ·by_cases hj:j=i
  ·subst hj;rw[List.getElem?_set_self hiσ] at e2;cases e2
  ·rw[List.getElem?_set_ne (Ne.symm hj)] at e2;obtain⟨u',r',q⟩:=hv j y v' e1 e2 e3;refine⟨u',r',?_⟩;rcases q with ⟨k,e⟩|⟨k,c,e,z⟩
   ·refine .inl ⟨k,?_⟩;have:y≠n:=λe=>hj (zT hN e1 (e ▸ hi));simp[this,e]
   ·exact .inr ⟨k,c,e,z.sameBut hs (cne y c e)⟩
 ·obtain⟨w',z⟩:=I.cell y c e;exact⟨w',z.sameBut hs (cne y c e)⟩
 ·obtain⟨e,n,ne,nf,d⟩:=I.pin p hp;exact⟨(hs.2 p.1 ne).trans e,n,ne,nf,d⟩
 ·refine (I.hok b ob e).stay (λc w' hc q=>(hs.2 c ?_).trans q) (λο q=>q) λο ο q=>q;rintro rfl;rcases hc with rfl|hc
  ·rw[I.free] at e;cases e
  ·rw[I.free] at hc;cases hc
structure XH (K:PySem.W.Frag) (mg:Str->Option Value) (x:Str) (D:Addr):Prop where
 m:mg x=some (.ref D)
 ty:PySem.W.typeIn K (.ref D)=some (.type "type")
 cl:∃cd,PySem.W.clsIn K D=some cd
 be:PySem.W.mroIn K D (.type "BaseException")=some true
noncomputable def kF (K:PySem.W.Frag) (C D:Addr):Prop:=PySem.W.mroIn K C (.ref D)=some true
set_option tactic.hygienic true in
theorem vh {K:PySem.W.Frag} {M:Model} {A:Around} {E:Value->Shared->Prop} {Q:Bool->Shared->Prop} {s:Shared} {mg:Str->Option Value} {x:Str} {ea C D:Addr} {o:Obj} (hin:K.In s.heap) (c:XH K mg x D) (sub:kF K C D)
  (ho:s.heap.get? ea=some o) (hcl:o.cls=.ref C) (q:Q true s):wpAny M A (excMatches (.ref ea) (.ref D)) Q E s:=by
 obtain⟨cd,hcd⟩:=c.cl;have L1:=PySem.W.looks_typeIn (M:=M) hin c.ty;have L2':=PySem.W.looks_mroIn (M:=M) hin c.be;have L3:=PySem.W.looks_mroIn (M:=M) hin sub;have L4:PySem.W.Looks M s.heap (typeOf (.ref ea)) (.ref C):=hcl ▸ (PySem.W.Looks.ld ho).andThen .now;have L5:PySem.W.Looks M s.heap (isType (.ref D)) true:=by
  unfold PySem.W.clsIn at hcd
  split at hcd
  ·rename_i ho';intro A' Q' E' s' k q';unfold isType loadHead;exact jA (wpAny_loadPart (k _ _ (hin _ _ ho')) (OA q'))
  ·cases hcd
 have L6:PySem.W.Looks M s.heap (isExcClass (.ref D)) true:=L5.andThen L2';obtain⟨h,g,d,t,os⟩:=s;have f:=tc_notTuple;unfold excMatches isInstance;refine jA (jA (L1.at ?_));rw[f];refine OA ?_;simp only[IA,wB];refine jA (OA ?_);rw[List.forIn_cons];refine jA (jA (jA (L6.at ?_)));simp only[Bool.not_true,IA,wB];refine OA ?_;dsimp only;rw[List.forIn_nil];refine OA ?_;refine jA (L4.at ?_);rw[List.forIn_cons];refine jA (jA (jA (L3.at ?_)));simp only[PB];refine OA ?_;dsimp only;refine OA ?_;exact OA q
end L2
namespace L2
open PySem PySem.Spec PyProof.Rows
noncomputable def sF:Option HO->String
 |some (.lst _)=>"list"
 |some (.frz _ (.lst _))=>"list"
 |some (.tup _)=>"tuple"
 |some (.dK _)=>"dict"
 |some (.dT _)=>"dict"
 |_=>""
noncomputable def kd (H:Hp):V->String
 |.non=>"NoneType"
 |.bl _=>"bool"
 |.int _=>"int"
 |.str _=>"str"
 |.ref a=>sF (H a)
 |_=>""
noncomputable def Kn (H:Hp) (x:V):Prop:=kd H x≠""
noncomputable def FF (n:String) (H:Hp) (x:V):Bool:=kd H x == n || (kd H x == "bool"&&n == "int")
theorem ZN {K:PySem.W.Frag} {H:Hp} {x:V} (h:Kn H x):ZE K H x (.type (kd H x)):=by
 cases x with
 |non=>exact .non
 |bl b=>exact .bl b
 |int i=>exact .int i
 |str s=>exact .str s
 |ref a=>
  have h:sF (H a)≠"":=h;show ZE K H (.ref a) (.type (sF (H a)));cases e:H a with
  |none=>rw[e] at h;exact absurd rfl h
  |some o=>
   rw[e] at h;cases o with
   |lst xs=>exact .lst e
   |tup xs=>exact .tup e
   |dK k=>exact .dK e
   |dT k=>exact .dT e
   |frz ob u=>
    cases u with
    |lst xs=>exact .frz e
    |_=>exact absurd rfl h
   |_=>exact absurd rfl h
 |_=>exact absurd rfl h
theorem Z5 (o:Option HO):sF o=""\/sF o="list"\/sF o="tuple"\/sF o="dict":=by
 unfold sF
 split<;>simp
theorem Kn.cases {H:Hp} {x:V} (h:Kn H x):kd H x="NoneType"\/kd H x="bool"\/kd H x="int"\/kd H x="str"\/kd H x="list"\/kd H x="tuple"\/kd H x="dict":=by
 cases x with
 |ref a=>
  have h:sF (H a)≠"":=h;show sF (H a)=_\/sF (H a)=_\/sF (H a)=_\/sF (H a)=_\/sF (H a)=_\/sF (H a)=_\/sF (H a)=_;rcases Z5 (H a) with e|e|e|e
  ·exact absurd e h
  ·exact .inr (.inr (.inr (.inr (.inl e))))
  ·exact .inr (.inr (.inr (.inr (.inr (.inl e)))))
  ·exact .inr (.inr (.inr (.inr (.inr (.inr e)))))
 |non=>exact .inl rfl
 |bl b=>exact .inr (.inl rfl)
 |int i=>exact .inr (.inr (.inl rfl))
 |str z=>exact .inr (.inr (.inr (.inl rfl)))
 |_=>exact absurd rfl h
theorem xh (K:PySem.W.Frag):∀k∈["NoneType","bool","int","str","list","tuple","dict"],∀n∈["bool","int","str","list","tuple","dict"],PySem.W.kitOne K (.type k) (.type n)=some (k == n || (k == "bool"&&n == "int")):=by
 have e:∀k∈["NoneType","bool","int","str","list","tuple","dict"],∀n∈["bool","int","str","list","tuple","dict"],(if (Value.type k == Value.type n)=true then some true else if PySem.W.kitMeta n=true then (fastBuiltinMro k).map (·.contains (.type n)) else none)=some (k == n || (k == "bool"&&n == "int")):=∅;exact λk hk n hn=>e k hk n hn
theorem mH {X:Cx}:lE X (.builtin "isinstance") (λxs H Q=>∃x n,xs=[x,.ty n]/\n∈["bool","int","str","list","tuple","dict"]/\Kn H x/\Q (.bl (FF n H x)) H):=by
 intro pins s σ H xs us Q I r h;obtain⟨x,n,rfl,hn,hk,q⟩:=h;cases r with
 |cons r1 rr=>
  cases rr with
  |cons r2 rr=>
   cases rr;cases r2;refine sg I r1 (ZN hk) (xh X.K _ ?_ n hn) λtk=>⟨.bl _,H,I.tok tk,rfl,q⟩
   rcases hk.cases with e|e|e|e|e|e|e<;>rw[e]<;>simp
theorem MM {X:Cx}:S3 X (unaryOp .USub) (rU λi=>.int (-i)):=by
 intro pins s σ H x v Q I rx h;obtain⟨i,rfl,q⟩:=h;obtain⟨t,rfl⟩:=rx;exact neg_int ⟨.int _,H,I.tok _,⟨_,rfl⟩,q⟩
end L2
namespace L2
open PySem PySem.Spec PyProof.Rows
theorem PK {H:Hp} {i:Int}:Kn H (.int i)↔True:=⟨λο=>trivial,λο=>(by decide:"int"≠"")⟩
theorem aO {H:Hp} {i:Bool}:Kn H (.bl i)↔True:=⟨λο=>trivial,λο=>(by decide:"bool"≠"")⟩
theorem QK {H:Hp} {i:Str}:Kn H (.str i)↔True:=⟨λο=>trivial,λο=>(by decide:"str"≠"")⟩
theorem OM {H:Hp} {a:Addr} {xs:List V} (h:H a=some (.lst xs)):Kn H (.ref a):=λz=>by
 have z:sF (H a)="":=z;rw[h] at z;exact absurd z (show "list"≠"" by decide)
theorem PM {H:Hp} {a:Addr} {xs:List V} (h:H a=some (.tup xs)):Kn H (.ref a):=λz=>by
 have z:sF (H a)="":=z;rw[h] at z;exact absurd z (show "tuple"≠"" by decide)
theorem RK {CX:CXT} {P:Program} {w:World} {K:PySem.W.Frag} {mg:Str->Option Value} {base:Heap} {N:List Str} {qual:Str} {scope:Scope} {f:Addr} {cd:Value} {A:Around} {outer:List Env} {s:Shared} {H:Hp} {E:XK}:
 (iE CX P w K mg base N qual scope f cd A outer s H E).K=K:=rfl
noncomputable def HF:V->Bool
 |.int _=>true
 |_=>false
noncomputable def jE (x:V) (l h:Int):Bool:=match x with
 |.int i=>decide (l<=i)&&decide (i<=h)
 |_=>false
theorem CH {i l h:Int}:jE (.int i) l h=(decide (l<=i)&&decide (i<=h)):=rfl
theorem yh {H:Hp} {x:V} (h:Kn H x):(FF "int" H x&& !FF "bool" H x)=HF x:=by
 cases x with
 |ref a=>
  have h:sF (H a)≠"":=h;have e:kd H (.ref a)=sF (H a):=rfl;unfold FF;rw[e];rcases Z5 (H a) with e|e|e|e<;>rw[e]<;>first|rfl|exact absurd e h
 |_=>first|rfl|exact absurd rfl h
end L2
namespace L2
open PySem PySem.Spec PyProof.Rows
inductive a6 (t u:TS):Type where
 |mk:a6 t u
noncomputable def bO (t u:TS) (_:a6 t u):TS:=λD σ H=>∃M:St->Hp->Prop,t {D with nx:=M} σ H/\∀σ' H',M σ' H'->u D σ' H'
theorem OD {X:Cx} {st:Stmt} {rest:List Stmt} {t u:TS} (h1:PS X st t) (h2:TF X rest u):TF X (st::rest) (bO t u .mk):=by
 intro pins s σ H D I h;obtain⟨M,h,hM⟩:=h;refine wpAny_execs_cons (pD (h1 pins s σ H {D with nx:=M} I h) λf s1 q=>?_);cases f with
 |next=>
  obtain⟨σ',H',I',q⟩:=q;exact h2 pins s1 σ' H' D I' (hM σ' H' q)
 |ret v=>exact q
 |brk=>exact q
 |cont=>exact q
noncomputable def SI:Option HO->Option (List V)
 |some (.lst xs)=>some xs
 |some (.frz _ (.lst xs))=>some xs
 |_=>none
noncomputable def aU:Option HO->Option (List V)
 |some (.tup xs)=>some xs
 |some (.frz _ (.tup xs))=>some xs
 |_=>none
theorem zh {xs:List V}:SI (some (.lst xs))=some xs:=rfl
theorem Th {xs:List V}:aU (some (.tup xs))=some xs:=rfl
set_option tactic.hygienic true in
theorem Uh {K:PySem.W.Frag} {H:Hp} {a:Addr} {xs:List V} (h:SI (H a)=some xs):aD K H a xs:=by
 unfold SI at h
 split at h
 ·rename_i e;cases h;exact .inl (.inl e)
 ·rename_i e;cases h;exact .inl (.inr ⟨_,e⟩)
 ·cases h
noncomputable def rIxH:R2:=λx y H Q=>∃p xs i v,x=.ref p/\y=.int i/\SI (H p)=some xs/\gH xs i=some v/\Q v H
theorem JR {X:Cx}:tI X rIxH:=by
 intro value slice pins s σ H x y v u Q I rx ry h hs;obtain⟨p,xs,i,w',e1,e2,e3,e4,q⟩:=h;exact uI value slice pins s σ H x y v u Q I rx ry ⟨p,xs,i,w',e1,e2,Uh e3,e4,q⟩ hs
theorem Vh {i j:Int}:KH (.int i) (.int j)=true:=rfl
theorem Wh {i j:Bool}:KH (.bl i) (.bl j)=true:=rfl
theorem Xh {i j:Str}:KH (.str i) (.str j)=true:=rfl
theorem bU:Int.natAbs 10=10:=rfl
theorem LC {H:Hp}:vC H H:=λο ο h=>h
theorem dD {H H':Hp} {p:Addr} {o:HO} (s:vC H H') (h:H' p=none):vC H (yC H' p o):=λb u e=>by
 have q:=s b u e;rw[WC (AE q h)];exact q
end L2
namespace L2
open PySem PySem.Spec PyProof.Rows
end L2
namespace L2
open PySem PySem.Spec PyProof.Rows
inductive nH (g:TG) (tb:TS):Type where
 |mk:nH g tb
noncomputable def UI (g:TG) (tb:TS) (_:nH g tb) (J:It):TS:=λD σ H=>∃W:Nat->Nat->St->Hp->Prop,(∃m,W 0 m σ H)/\∀i m σ H,W i m σ H->
 (J.stop i H/\D.nx σ H)\/(J.go i H/\∃N:St->Hp->Prop,(∀σ' H',N σ' H'->∃m',m' < m/\W (i+1) m' σ' H')/\∀x H',J.yld i H x H'->g x σ H' λσ2 H2=>tb {D with nx:=N,ct:=N,bk:=D.nx} σ2 H2)
noncomputable def vJ (wi:TI) (g:TG) (tb:TS) (h:nH g tb):TS:=λD σ H=>wi σ H λJ H1=>UI g tb h J D σ H1
theorem DG {X:Cx} {tg iter:Expr} {body:List Stmt} {wi:TI} {g:TG} {tb:TS} {pos:Pos} (hp:PassesOwn (model X.prog X.w) X.A X.env X.xe) (hc:X.calm=true) (hi:PI X tg iter wi) (hg:PG X tg g) (hb:TF X body tb)
 (hs:∀x,foldedSetIterable iter X.env x=pure x:=by intro _;rfl):PS X (.For tg iter body [] pos) (vJ wi g tb .mk):=DK hp hc hi hg hb hs
theorem QM {lo:Int} {n:Nat} {g:TG} {tb:TS} {h:nH g tb} {D:BE} {σ:St} {H:Hp} (Pv:Nat->St->Hp->Prop) (h0:Pv 0 σ H)
 (hs:∀i σ H,i < n->Pv i σ H->g (.int (lo+i)) σ H λσ2 H2=>tb {D with nx:=Pv (i+1),ct:=Pv (i+1),bk:=D.nx} σ2 H2) (hd:∀σ H,Pv n σ H->D.nx σ H):UI g tb h (iJ lo n) D σ H:=dg Pv h0 hs hd
theorem VI {K:PySem.W.Frag} {a:Addr} {xs:List V} {g:TG} {tb:TS} {h:nH g tb} {D:BE} {σ:St} {H:Hp} (Pv:Nat->St->Hp->Prop) (h0:Pv 0 σ H) (hl:∀i σ H,i<=xs.length->Pv i σ H->aD K H a xs)
 (hs:∀i x σ H,xs[i]?=some x->Pv i σ H->g x σ H λσ2 H2=>tb {D with nx:=Pv (i+1),ct:=Pv (i+1),bk:=D.nx} σ2 H2) (hd:∀σ H,Pv xs.length σ H->D.nx σ H):UI g tb h (CK K a) D σ H:=cg Pv h0 hl hs hd
noncomputable def pw (n:Int):Int:=2 ^ n.toNat
theorem b6 (n:Nat):pw (n:Int)=2 ^ n:=by unfold pw;rw[Int.toNat_natCast]
theorem SK (n:Nat):pw ((n+1:Nat):Int)=pw (n:Int) * 2:=by rw[b6,b6,Int.pow_succ]
theorem KR (n:Int):1<=pw n:=by
 unfold pw;generalize n.toNat=k
 induction k with
 |zero=>decide
 |succ k ih=>rw[Int.pow_succ];omega
theorem c6 {n m : Nat} (h : n <= m) : pw (n : Int) <= pw (m : Int) := by
  induction m with
  | zero => have : n = 0 := by omega
            subst this; exact aB _
  | succ k ih =>
    rcases (by omega : n <= k \/ n = k + 1) with e | e
    · have := ih e; have := KR k; rw [SK]; omega
    · subst e; exact aB _
theorem UK {x y:Int} (h1:2<=x) (h2:x<=3) (h3:1<=y) (h4:y<=8):2<=x * y/\x * y<=24:=by
 rcases (by omega:x=2\/x=3) with e|e<;>subst e<;>omega
end L2
namespace L2
open PySem PySem.Spec PyProof.Rows
set_option tactic.hygienic true in
theorem i6 {f:Str} {v:V} {n:Nat}:∀{fs:List (Str×V)},fs.length < n->(RD f v fs).length < n+1
 |[],_=>by show 1 < n+1;rename_i h;simp at h;omega
 |(g,x)::r,h=>by
  unfold RD
  split
  ·exact Nat.lt_succ_of_lt h
  ·cases n with
   |zero=>exact absurd h (Nat.not_lt_zero _)
   |succ m=>exact Nat.succ_lt_succ (i6 (Nat.lt_of_succ_lt_succ h))
end L2
namespace L2
open PySem PySem.Spec PyProof.Rows
end L2
namespace L2
open PySem PySem.Spec PyProof.Rows
end L2
namespace L2
open PySem PySem.Spec PyProof.Rows
end L2
namespace L2
open PySem PySem.Spec PyProof.Rows
theorem j6 {H:Hp} {a:Addr} {xs:List V} (h:H a=some (.tup xs)):FF "tuple" H (.ref a)=true:=by
 unfold FF;rw[show kd H (.ref a)=sF (H a) from rfl,h];rfl
theorem m6 {H:Hp} {a:Addr} {xs:List V} (h:H a=some (.lst xs)):FF "list" H (.ref a)=true:=by
 unfold FF;rw[show kd H (.ref a)=sF (H a) from rfl,h];rfl
end L2
namespace L2
open PySem PySem.Spec PyProof.Rows
section
variable {X:Cx} {pins pins2:List (Addr×Obj)} {σ:St} {H:Hp} {s:Shared} {E':Value->Shared->Prop}
theorem Cx.Ok.re {pn:List (Addr×Obj)} (ok:X.Ok):({X with xe:=E',pn:=pn}:Cx).Ok:=
 ⟨ok.mod,ok.kind,ok.glob,ok.blt,ok.above,ok.inj,ok.has,ok.cab,ok.hd,ok.frames,ok.stk,ok.exf,ok.bs,ok.bsz,ok.noex,ok.exfs,ok.funs,ok.frf⟩
theorem wC.re (I:wC X pins σ H s):wC {X with xe:=E',pn:=X.pn++pins} [] σ H s:=
 ⟨I.ok.re,I.os,I.bare,I.base,I.loc,I.cell,I.free,I.freeC,λp hp=>I.pin p (by rw[IB] at hp;exact hp),I.hok,I.len⟩
theorem wC.unre (ok:X.Ok) (I:wC {X with xe:=E',pn:=X.pn++pins} pins2 σ H s):wC X pins σ H s:=
 ⟨ok,I.os,I.bare,I.base,I.loc,I.cell,I.free,I.freeC,λp hp=>I.pin p (RA _ hp),I.hok,I.len⟩
theorem wC.marked {v : Option Value} (I : wC X pins σ H s) : wC { X with A := X.A.mark v, calm := false, xe := E' } pins σ H s :=
  ⟨⟨I.ok.mod, I.ok.kind, I.ok.glob, I.ok.blt, I.ok.above, I.ok.inj, I.ok.has, I.ok.cab, λz => Bool.noConfusion z, I.ok.frames, I.ok.stk, I.ok.exf, I.ok.bs, I.ok.bsz, I.ok.noex, I.ok.exfs, I.ok.funs, I.ok.frf⟩,
    I.os, I.bare, I.base, I.loc, I.cell, I.free, I.freeC, I.pin, I.hok, I.len⟩
theorem wC.unmarked {v:Option Value} (ok:X.Ok) (I:wC {X with A:=X.A.mark v,calm:=false,xe:=E'} pins σ H s):wC X pins σ H s:=
 ⟨ok,I.os,I.bare,I.base,I.loc,I.cell,I.free,I.freeC,I.pin,I.hok,I.len⟩
end
noncomputable def RH (K:PySem.W.Frag) (D:Addr) (i:Nat) (tb:XKs->TS) (to th:TS):TS:=λDn σ H=>
 tb (λcls σ' H'=>∃C,cls=.ref C/\kF K C D/\∀ea,H' ea=none->th {nx:=λσ2 H2=>Dn.nx (σ2.set i none) H2,rt:=Dn.rt,bk:=λσ2 H2=>Dn.bk (σ2.set i none) H2,ct:=λσ2 H2=>Dn.ct (σ2.set i none) H2}
  (σ'.set i (some (.ref ea))) (yC H' ea (rF ea C))) {Dn with nx:=to Dn} σ H
theorem n6 {X:Cx} {i:Nat} {n x:Str} {D:Addr} {body orelse:List Stmt} {b₀:Stmt} {suite:List Stmt} {np hpos pos:Pos} {tb:XKs->TS} {to th:TS}
  (hN:X.N.Nodup) (hi:X.N[i]?=some n) (hlo:X.env.kindOf n=some .local) (c:XH X.K X.mg x D)
  (hb:∀(E':Value->Shared->Prop) (pn:List (Addr×Obj)) (Kx:XKs),PassesOwn (model X.prog X.w) X.A X.env E'->XW {X with xe:=E',pn:=pn} Kx->TF {X with xe:=E',pn:=pn} body (tb Kx))
  (ho:TF X orelse to) (hh:∀ea:Addr,TF {X with A:=X.A.mark (some (.ref ea)),calm:=false,xe:=λο ο=>False} (b₀::suite) th)
  (hg:Gl X x:=by rfl) (hst:X.stack=X.env::X.outer:=by rfl) (hfm:X.env.frame=some X.env.locals:=by rfl) (hd:(x == ("__debug__":Str))=false:=by decide):
  PS X (.Try body [.ExceptHandler (some (.Name x np)) (some n) (b₀::suite) hpos] orelse [] pos) (RH X.K D i tb to th):=by
 intro pins s σ H Dn I h;refine wpAny_Try_except ?_;have xw:XW {X with xe:=(λe s₁=>wpAny (model X.prog X.w) X.A (noteFrame e X.env) (λο s₂=>wpAny (model X.prog X.w) X.A (setFlight e none) (λο s₃=>
   wpAny (model X.prog X.w) X.A (handleBy e X.env [.ExceptHandler (some (.Name x np)) (some n) (b₀::suite) hpos]) (SP X pins Dn) X.xe s₃) X.xe s₂) X.xe s₁),pn:=X.pn++pins}
   (λcls σ' H'=>∃C,cls=.ref C/\kF X.K C D/\∀ea,H' ea=none->th {nx:=λσ2 H2=>Dn.nx (σ2.set i none) H2,rt:=Dn.rt,bk:=λσ2 H2=>Dn.bk (σ2.set i none) H2,ct:=λσ2 H2=>Dn.ct (σ2.set i none) H2}
    (σ'.set i (some (.ref ea))) (yC H' ea (rF ea C))):=by
  intro pins2 σ2 H2 s2 s' ea cls H' B I2 os bare un hok fly hK;obtain⟨C,rfl,hsub,hK⟩:=hK;have J2:wC X pins σ2 H2 s2:=I2.unre I.ok;have J':wC X pins σ2 H' s':=J2.call' (s':=s') (ch:=[]) os un hok bare (λb z=>absurd z (by simp));have fly:IR B X.stack s2.heap H2 H' s'.heap ea (.ref C):=fly;obtain⟨a0,hfl⟩:=id fly.fl;have hfr:=I.ok.frames;rw[hst] at hfr hfl;show wpAny (model X.prog X.w) X.A (noteFrame (.ref ea) X.env) _ X.xe s';refine OH hfr hfm hfl fly.nc λh4 held4 up4 nc4=>?_;refine jG (s:={s' with heap:=h4}) held4.1 held4.2.2.1 held4.2.2.2 nc4 held4.2.1 λh5 fl5 up5 nc5=>?_;have J5:wC X pins σ2 H' {s' with heap:=h5}:=wC.flown J2 J' fly fl5.1 (up4.trans up5);obtain⟨oe,vs5,hoe,hoc,hod,_⟩:=fl5.first;refine wpAny_handleBy_cons (codeAny_handlers_test (AK (X:={X with A:=X.A.mark (some (.ref ea)),calm:=false,xe:=λο ο=>False}) (J5.marked (v:=some (.ref ea))) hg c.m ?_ hd)) (by intro q;cases q);refine vh (x:=x) (mg:=X.mg) J5.kIn c hsub hoe hoc ?_;refine codeAny_handlers_suite_as ?_;refine jG (s:={s' with heap:=h5}) fl5.1 fl5.2.2.1 fl5.2.2.2.at nc5 fl5.2.1 λh6 fl6 up6 nc6=>?_;have J6:wC X pins σ2 H' {s' with heap:=h6}:=wC.flown J2 J' fly fl6.1 ((up4.trans up5).trans up6);obtain⟨o6,vs6,ho6,hc6,hd6,_⟩:=fl6.first;have v26:vs6[2]?=some .none:=by
   obtain⟨o',vs',g',d',v2⟩:=nc6;rw[ho6] at g';cases g';rw[hd6] at d';cases d';exact v2
  have hne:H' ea=none:=by
   cases z:H' ea with
   |none=>rfl
   |some u=>
    obtain⟨o,e⟩:=fly.trk ea u z;rw[fl6.2.1] at e;cases e
  have nB:∀b o,B.get? b=some o->b≠ea:=λb o e z=>by rw[z,fl6.2.1] at e;cases e
  have J7:wC X pins σ2 (yC H' ea (rF ea C)) {s' with heap:=h6}:=by
   refine J6.track hne ?_ ?_ ?_ ?_ ?_
   ·intro z;obtain⟨m,⟨oL,es,ep,hoL,hdL,_⟩,_⟩:=J6.loc;rw[<-z] at hoL;have e:=ho6.symm.trans hoL;cases e;rw[hd6] at hdL;cases hdL
   ·intro o e;by_cases hx:ea∈X.ex
    ·exact hx
    ·exfalso;by_cases hf:ea∈X.fs
     ·obtain⟨_,o',ho',hnf⟩:=J6.funs.mem hf;have e:=ho6.symm.trans ho';cases e;exact hnf _ hd6
     ·obtain⟨o1,e1⟩:=J2.base.there ea o e hx;have hl:ea≠X.env.locals:=cB (JA (GA e) I.ok.above);obtain⟨o2,e2⟩:=fly.alive ea o1 e1 λz=>by
       rcases wA.mp (J2.stkSub ea z) with q|q
       ·exact hl q
       ·exact hf q
      exact nB ea o2 e2 rfl
   ·intro x' c' e z;obtain⟨v,o,ho,hdc⟩:=J6.cell x' c' e;rw[z] at ho;have e:=ho6.symm.trans ho;cases e;rw[hd6] at hdc;cases hdc
   ·intro p hp;obtain⟨e,nn,ne,nfs,_⟩:=J2.pin p hp;exact nB p.1 p.2 (fly.kept p.1 p.2 e nn λz=>by
     rcases wA.mp (J2.stkSub p.1 z) with q|q
     ·exact ne q
     ·exact nfs q)
   ·intro H0;exact⟨⟨o6,vs6,ho6,hc6,hd6,v26⟩,⟨o6,ho6⟩,λh1 h2 ⟨o,vs,a1,a2,a3⟩ k=>⟨o,vs,k o a1,a2,a3⟩⟩
  refine AT J7 hN hi (Or.inl hlo) (v:=.ref ea) rfl (λs7 J8=>?_) (.inr hlo);refine rB (hh ea pins s7 _ _ _ (J8.marked (v:=some (.ref ea))) (hK ea hne)) (λf s8 hq=>?_) (λο ο z=>z.elim);show wpAny (model X.prog X.w) X.A (do bindName X.env n .none;unbindBehindTheSuite X.env n hpos) (λο s₃=>SP X pins Dn f s₃) X.xe s8;cases f with
  |next=>
   obtain⟨σ',H2',I3,q⟩:=hq;exact (I3.unmarked I.ok).nameGone hN hi hlo λs9 I9=>⟨_,H2',I9,q⟩
  |brk=>
   obtain⟨σ',H2',I3,q⟩:=hq;exact (I3.unmarked I.ok).nameGone hN hi hlo λs9 I9=>⟨_,H2',I9,q⟩
  |cont=>
   obtain⟨σ',H2',I3,q⟩:=hq;exact (I3.unmarked I.ok).nameGone hN hi hlo λs9 I9=>⟨_,H2',I9,q⟩
  |ret u=>
   obtain⟨v,σ',H2',I3,r,q⟩:=hq;exact (I3.unmarked I.ok).nameGone hN hi hlo λs9 I9=>⟨v,_,H2',I9,r,q⟩
 have q:=hb _ (X.pn++pins) _ PassesOwn.looking xw [] s σ H {Dn with nx:=to Dn} I.re h;refine rB q (λf s1 hq=>?_) (λe s1 hq=>hq);cases f with
 |next=>
  obtain⟨σ',H',I1,q1⟩:=hq;exact ho pins s1 σ' H' Dn (I1.unre I.ok) q1
 |brk=>obtain⟨σ',H',I1,q1⟩:=hq;exact⟨σ',H',I1.unre I.ok,q1⟩
 |cont=>obtain⟨σ',H',I1,q1⟩:=hq;exact⟨σ',H',I1.unre I.ok,q1⟩
 |ret u=>obtain⟨v,σ',H',I1,r,q1⟩:=hq;exact⟨v,σ',H',I1.unre I.ok,r,q1⟩
end L2
namespace PySem.W
open PySem PySem.Spec PySem.Calls PyProof.Rows
open Builtin Builtin.ObjectAttr Builtin.Getset_descriptor
structure XIs (K:Frag) (C:Addr):Prop where
 g:findIn K (.ref C) "__getattribute__"=some (some (.builtin "BaseException.__getattribute__"))
 h:findIn K (.ref C) "__getattr__"=some none
 b:mroIn K C (.type "BaseException")=some true
 d:hasDictIn K C=true
 a:findIn K (.ref C) "__class__"=some (some (.builtin "object.__class__"))
 n:specialIn K (.builtin "object.__class__") "__get__"=some (some (.builtin "getset_descriptor.__get__"))
 t:takesIn K (.builtin "object.__class__")=some true
 m:mroIn K C (.type "object")=some true
noncomputable def ExcAt (e C:Addr) (h:Heap):Prop:=∃o,h.get? e=some o/\o.cls=.ref C
section
variable {K:Frag} {e C:Addr}
theorem ExcAt.ty {M:Model} {h:Heap} (p:ExcAt e C h):Looks M h (typeOf (.ref e)) (.ref C):=by
 obtain⟨o,h1,h2⟩:=p;exact h2 ▸ (Looks.ld h1).andThen .now
set_option tactic.hygienic true in
theorem Yh {M:Model} {h:Heap} (hin:K.In h) (x:XIs K C):Looks M h (isType (.ref C)) true:=by
 obtain⟨cd,hcd,_⟩:=any_some x.d;unfold clsIn at hcd
 split at hcd
 ·rename_i ho';intro A' Q' E' s' k q';unfold isType loadHead;exact jA (wpAny_loadPart (k _ _ (hin _ _ ho')) (OA q'))
 ·cases hcd
theorem eO {M:Model} {h:Heap} (hin:K.In h) (x:XIs K C):Looks M h (find (.ref e) (.ref C) "__class__") (.bind (.builtin "getset_descriptor.__get__") (.builtin "object.__class__")):=by
 have A1:=looks_findIn (M:=M) hin x.a;have A2:Looks M h (getOf (some (.builtin "object.__class__"))) (some (.builtin "getset_descriptor.__get__")):=looks_specialIn hin x.n;have A3:=looks_takesIn (M:=M) hin x.t;exact A1.andThen (A2.andThen ((show Looks M h (dataDescriptor? (some (.builtin "object.__class__")) (some (.builtin "getset_descriptor.__get__"))) (some _) from A3.andThen .now).andThen (Looks.tag .now)))
variable {prog:Program} {w:World} {A:Around} {E:Value->Shared->Prop} {s:Shared}
theorem cU {R:Result->Shared->Prop} {tp:Value} (hin:K.In s.heap) (p:ExcAt e C s.heap) (x:XIs K C) (h:R (.ok (.ret (.ref C))) s):
  codeAny (model prog w) A (.call (.builtin "getset_descriptor.__get__") ⟨[.builtin "object.__class__",.ref e,tp],[]⟩) R s:=by
 obtain⟨hh,g,dr,t,os⟩:=s;have B0:=p.ty (M:=model prog w);have B1:=looks_mroIn (M:=model prog w) hin x.m;refine codeAny_call_builtin KF.slot_gs.plain KF.entry_gs (KF.slot_gs.check _ _ _ _ _ _ _ _ KF.type_class (KF.args_gs _ _ _) ?_);unfold Builtin.«getset_descriptor.__get__» descrGet;rw[dga_obj];refine jA (OA ?_);unfold descrGetter descrCheckInstance descrNameAndClass isInstance;simp only[KF.owner_class]
 repeat lk
 refine⟨Code.quiet_builtin _ ∅,codeAny_builtin KF.entry_class ?_⟩;unfold Builtin.«object.__class__» shownTypeOf
 repeat lk
 exact h
theorem WK {M:Model} {nameV:Value} {Q:Unit->Shared->Prop} (hin:K.In s.heap) (p:ExcAt e C s.heap) (x:XIs K C) (hq:Q () s):wpAny M A (checkBuiltinCall "BaseException.__getattribute__" ⟨[.ref e,nameV],[]⟩) Q E s:=by
 have c1:builtinKind "BaseException.__getattribute__"=some .slot:=∅;have c2:splitId "BaseException.__getattribute__"=some ("BaseException","__getattribute__"):=∅;have c3:=F.args_bexc_ga (.ref e) nameV;obtain⟨hh,g,d,t,os⟩:=s;have B0:=p.ty (M:=M);have B1:=looks_mroIn (M:=M) hin x.b;have B2:Looks M hh (isInstance (.ref e) (.type "BaseException")) true:=B0.andThen B1;simp only[checkBuiltinCall,c1,c2];refine jA (B2.at ?_);simp only[Bool.not_true,IA,wB];exact wpAny_of_eq c3 hq
theorem YK {tk:Tok} {Q:Fin->Shared->Prop} (hin:K.In s.heap) (p:ExcAt e C s.heap) (x:XIs K C) (hq:Q (.done (.ret (.ref C))) s):wpAny (model prog w) A (Builtin.«object.__getattribute__» ⟨[.ref e,.str "__class__" tk],[]⟩) Q E s:=by
 obtain⟨hh,g,d,t,os⟩:=s;have B0:=p.ty (M:=model prog w);have B2:=eO (M:=model prog w) (e:=e) hin x;unfold Builtin.«object.__getattribute__»;refine jA (OA (a:=(Value.ref e,[Value.str "__class__" tk])) ?_);refine jA (OA (a:=("__class__":Str)) ?_);refine jA (B0.at (jA (B2.at ?_)));show wpAny _ _ (bindTo (Value.builtin "getset_descriptor.__get__") (Value.builtin "object.__class__") (Value.ref e) (Value.ref C)) _ _ _;unfold bindTo;dsimp only;refine jA (wpAny_holding (wpAny_call (cU (s:=⟨hh,g,d,t,os⟩) hin p x ?_)));exact OA hq
theorem Zh {Q:Option Value->Shared->Prop} (hin:K.In s.heap) (p:ExcAt e C s.heap) (x:XIs K C) (h:Q (some (.ref C)) {s with toks:=s.toks+1}):wpAny (model prog w) A (getAttr? (.ref e) "__class__") Q E s:=by
 obtain⟨hh,g,d,t,os⟩:=s;have B0:=p.ty (M:=model prog w);have B1:=looks_findIn (M:=model prog w) hin x.g;have B3:=looks_findIn (M:=model prog w) hin x.h;unfold getAttr? getAttrBy? getAttrBy;refine jA (wpAny_mkText (jA (wpAny_attempt (wpAny_holding (jA (B0.at (jA (B1.at ?_))))))));have c2:(Value.builtin "BaseException.__getattribute__" == Value.builtin "object.__getattribute__")=false:=∅;simp only[c2,Bool.and_false,IA,wB];unfold getAttrByItsOwn hookBefore;rw[bA (show onTheHeap (Value.ref C)=true from rfl)];refine jA (B3.at (jA (wpAny_attempt (wpAny_holding ?_))));unfold callGetattribute boundAndCalled;simp only[dC,IA,wB];refine jA (wpAny_of_eq (PySem.F.attr_ValueError.ga.bind (.ref e)) ?_);refine wpAny_call (codeAny_call_builtin PySem.F.attr_ValueError.ga.plain F.entry_bexc_ga (WK (s:=⟨hh,g,d,t+1,os⟩) hin p x (YK (s:=⟨hh,g,d,t+1,os⟩) hin p x ?_)));exact handed_on rfl (OA h)
set_option tactic.hygienic true in
theorem kitx_exc (x:XIs K C):KitX K (.ref e) (.ref C) (ExcAt e C) where
 ty:=λο ο ο p=>p.ty
 it:=λο ο hin ο=>Yh hin x
 ne:=λh tp dd its n sl hin htp=>by
  refine JB.mpr λq=>?_;obtain⟨cd,hcd,_⟩:=any_some x.d;have e1:C=tp:=Value.ref.inj (RB.mp q);rw[<-e1] at htp;unfold clsIn at hcd
  split at hcd
  ·rename_i ho';have z:=(hin _ _ ho').symm.trans htp;cases z
  ·cases hcd
 ca:=λhin p k=>Zh hin p x k
end
end PySem.W
namespace L2
open PySem PySem.Spec PyProof.Rows
noncomputable abbrev XI (K:PySem.W.Frag) (C:Addr):Prop:=PySem.W.XIs K C
theorem r6:∀n:Nat,∃h:Heap,h.objs.size=n
 |0=>⟨{({}:Heap) with objs:= #[]},rfl⟩
 |n+1=>by
  obtain⟨h,e⟩:=r6 n;exact⟨h.push {cls:=.none,data:=.fields #[]},by rw[Heap.size_push,e]⟩
theorem ai {a C C':Addr}:rF a C=rF a C'↔C=C':=by
 constructor
 ·intro z;unfold rF at z;have f:=HO.ext.inj z;obtain⟨h,e⟩:=r6 a;have g:=VB f (h.push {cls:=.ref C,data:=.fields #[.none,.none,.none]});have k:(h.push {cls:=.ref C,data:=.fields #[.none,.none,.none]}).get? a=some {cls:=.ref C,data:=.fields #[.none,.none,.none]}:=by
   rw[<-e];exact XA h rfl
  have g2:=g.mp ⟨_,_,k,rfl,rfl,rfl⟩;obtain⟨o,vs,k',c,_⟩:=g2;rw[k] at k';cases k';cases c;rfl
 ·intro z;rw[z]
noncomputable def SH:V->Value
 |.ref a=>.ref a
 |.ty n=>.type n
 |_=>.none
theorem bi {a:Addr}:SH (.ref a)=.ref a:=rfl
theorem ci {n:String}:SH (.ty n)=.type n:=rfl
theorem gO {X:Cx} {pins:List (Addr×Obj)} {σ:St} {H:Hp} {s:Shared} {a C:Addr} (I:wC X pins σ H s) (e:H a=some (rF a C)):PySem.W.ExcAt a C s.heap:=by
 obtain⟨⟨o,vs,h1,h2,_⟩,_⟩:=(show iD X.prog X.w H s.heap a (rF a C) from I.hok a _ e)
 exact⟨o,h1,h2⟩
theorem wJ {X:Cx} {K:PySem.W.Frag} (hK:X.K=K:=by rfl):lE X (.builtin "isinstance") (λxs H Q=>∃a y C b,xs=[.ref a,y]/\H a=some (rF a C)/\XI K C/\PySem.W.kitOne K (.ref C) (SH y)=some b/\Q (.bl b) H):=by
 subst hK;intro pins s σ H xs us Q I r h;obtain⟨a,y,C,b,rfl,e,x,k,q⟩:=h;cases r with
 |cons r1 rr=>
  cases rr with
  |cons r2 rr=>
   cases rr;cases r1;have c2:∀u,FC y u->PySem.W.kitOne X.K (.ref C) (SH y)=some b->PySem.W.kitOne X.K (.ref C) u=some b:=λu ru k=>by
    cases y with
    |ref a=>cases ru;exact k
    |ty n=>cases ru;exact k
    |_=>exact absurd k (by unfold SH PySem.W.kitOne PySem.W.kitCls;simp)
   exact PySem.W.kia_one (PySem.W.kitx_exc x) I.kIn (gO I e) (c2 _ r2 k) (λz=>nomatch z) λtk=>⟨.bl b,H,I.tok tk,rfl,q⟩
end L2
namespace L2
open PySem PySem.Spec PyProof.Rows
inductive Dv where
 |leaf (v:V)
 |seq (t:Bool) (ds:List Dv)
mutual
noncomputable def cE (K:PySem.W.Frag) (H:Hp):Dv->V->Prop
 |.leaf v,x=>x=v/\rG v=true
 |.seq t ds,x=>∃a xs,x=.ref a/\(if t=true then OC K H a xs else aD K H a xs)/\uD K H ds xs
noncomputable def uD (K:PySem.W.Frag) (H:Hp):List Dv->List V->Prop
 |[],xs=>xs=[]
 |d::ds,xs=>∃x r,xs=x::r/\cE K H d x/\uD K H ds r
end
mutual
noncomputable def dE:Dv->Dv->Bool
 |.leaf _,.leaf _=>true
 |.seq t ds,.seq u es=>t == u&&rD ds es
 |_,_=>false
noncomputable def rD:List Dv->List Dv->Bool
 |d::ds,e::es=>dE d e&&rD ds es
 |_,_=>true
end
mutual
noncomputable def eE:Dv->Dv->Bool
 |.leaf v,.leaf w=>GM v w
 |.seq _ ds,.seq _ es=>mD ds es
 |_,_=>false
noncomputable def mD:List Dv->List Dv->Bool
 |[],[]=>true
 |d::ds,e::es=>eE d e&&mD ds es
 |_,_=>false
end
mutual
noncomputable def FD:Dv->Nat
 |.leaf _=>0
 |.seq _ ds=>QC ds+1
noncomputable def QC:List Dv->Nat
 |[]=>0
 |d::ds=>max (FD d) (QC ds)
end
theorem uD.length {K:PySem.W.Frag} {H:Hp}:∀{ds:List Dv} {xs:List V},uD K H ds xs->ds.length=xs.length
 |[],xs,h=>by unfold uD at h;subst h;rfl
 |d::ds,xs,h=>by
  unfold uD at h;obtain⟨x,r,rfl,_,h⟩:=h;simp[h.length]
theorem uD.get {K:PySem.W.Frag} {H:Hp}:∀{ds:List Dv} {xs:List V} {j:Nat} {d:Dv},uD K H ds xs->ds[j]?=some d->∃x,xs[j]?=some x/\cE K H d x
 |[],xs,j,d,h,e=>by simp at e
 |d'::ds,xs,0,d,h,e=>by
  unfold uD at h;obtain⟨x,r,rfl,hx,h⟩:=h;simp at e;subst e;exact⟨x,rfl,hx⟩
 |d'::ds,xs,j+1,d,h,e=>by
  unfold uD at h;obtain⟨x,r,rfl,hx,h⟩:=h;obtain⟨y,e1,e2⟩:=uD.get (j:=j) h (by simpa using e);exact⟨y,by simpa using e1,e2⟩
theorem di (n:Nat) (f:Nat->Bool):(List.range (n+1)).all f=(f 0&&(List.range n).all λj=>f (j+1)):=by
 rw[List.range_succ_eq_map,List.all_cons,List.all_map];rfl
theorem dU:∀(ds es:List Dv),mD ds es=(decide (ds.length=es.length)&&(List.range (min ds.length es.length)).all λj=>eE (ds.getD j (.leaf .non)) (es.getD j (.leaf .non)))
 |[],[]=>by simp[mD]
 |[],e::es=>by simp[mD]
 |d::ds,[]=>by simp[mD]
 |d::ds,e::es=>by
  have ih:=dU ds es;rw[mD,ih];have hm:min (d::ds).length (e::es).length=min ds.length es.length+1:=by simp[Nat.succ_min_succ]
  rw[hm,di];simp only[jB,Nat.add_right_cancel_iff,List.getD_cons_zero,List.getD_cons_succ];cases eE d e<;>cases decide (ds.length=es.length)<;>simp
theorem t6 {v:V} (h:rG v=true):GM v v=true:=by
 cases v<;>first|rfl|(simp[GM];done)|exact absurd h (by simp[rG])
mutual
theorem u6 {X:Cx} {pins:List (Addr×Obj)} {σ:St} {H:Hp} {s:Shared} (I:wC X pins σ H s):∀(d e:Dv) (x:V),dE d e=true->cE X.K H d x->cE X.K H e x->eE d e=true
 |.leaf a,.leaf b,x,_,hx,hy=>by
  unfold cE at hx hy;obtain⟨rfl,fx⟩:=hx;obtain⟨rfl,fy⟩:=hy;rw[eE];exact t6 fx
 |.leaf a,.seq t es,_,h,_,_=>by simp[dE] at h
 |.seq t ds,.leaf b,_,h,_,_=>by simp[dE] at h
 |.seq t ds,.seq t' es,x,h,hx,hy=>by
  rw[dE,ZA] at h;have ht:=RB.mp h.1;subst ht;unfold cE at hx hy;obtain⟨a,xs,rfl,hsx,hL⟩:=hx;obtain⟨b,ys,e,hsy,hM⟩:=hy;cases e;rw[eE];have exy:xs=ys:=by
   cases t with
   |true=>exact I.tuple_inj (by simpa using hsx) (by simpa using hsy)
   |false=>exact I.list_inj (by simpa using hsx) (by simpa using hsy)
  subst exy;exact x6 I ds es xs h.2 hL hM
theorem x6 {X:Cx} {pins:List (Addr×Obj)} {σ:St} {H:Hp} {s:Shared} (I:wC X pins σ H s):∀(ds es:List Dv) (xs:List V),rD ds es=true->uD X.K H ds xs->uD X.K H es xs->mD ds es=true
 |[],[],_,_,_,_=>by rw[mD]
 |[],e::es,xs,_,hx,hy=>by
  unfold uD at hx hy;obtain⟨x,r,e1,_⟩:=hy;rw[hx] at e1;cases e1
 |d::ds,[],xs,_,hx,hy=>by
  unfold uD at hx hy;obtain⟨x,r,e1,_⟩:=hx;rw[hy] at e1;cases e1
 |d::ds,e::es,xs,h,hx,hy=>by
  rw[rD,ZA] at h;unfold uD at hx hy;obtain⟨x,r,rfl,hx,hxr⟩:=hx;obtain⟨y,r',e1,hy,hyr⟩:=hy;cases e1;rw[mD,u6 I d e x h.1 hx hy,x6 I ds es r h.2 hxr hyr]
  rfl
end
theorem y6 {X:Cx} {pins:List (Addr×Obj)} {σ:St} {H:Hp} {s:Shared} (I:wC X pins σ H s) {A:Around} {t:Bool} {ds es:List Dv} {a b:Addr} {xs ys:List V} (hu:A.units < cLine)
  (hsx:if t=true then OC X.K H a xs else aD X.K H a xs) (hsy:if t=true then OC X.K H b ys else aD X.K H b ys) (l1:ds.length=xs.length) (l2:es.length=ys.length)
  (ih:∀(j:Nat) (u v:Value) (us vs:List Value),GC xs us->GC ys vs->us[j]?=some u->vs[j]?=some v->SeqAt.EqAt A.in1 s u v (eE (ds.getD j (.leaf .non)) (es.getD j (.leaf .non)))):
  SeqAt.RcAt A s (.ref a) (.ref b) (mD ds es):=by
 rw[dU];cases t with
 |false=>
  obtain⟨its,rv,pl,_⟩:=I.list (show aD X.K H a xs by simpa using hsx);obtain⟨its2,rv2,pl2,_⟩:=I.list (show aD X.K H b ys by simpa using hsy);have n1:=rv.length;have n2:=rv2.length;by_cases hl:ds.length=es.length
  ·have q:=SeqAt.RcAt.lists (e:=λj=>eE (ds.getD j (.leaf .non)) (es.getD j (.leaf .non))) pl.isList pl2.isList (by simp;omega) (by omega:A.units < cLine) (λj h1 h2=>by
    have h1:j < its.length:=by simpa using h1
    have h2:j < its2.length:=by simpa using h2
    have e:=ih j (its[j]) (its2[j]) its its2 rv rv2 (by simp[h1]) (by simp[h2]);simpa using e)
   rw[kA hl,Bool.true_and];have em:min ds.length es.length=its.toArray.size:=by simp;omega
   rw[em];exact q
  ·have q:=SeqAt.RcAt.lists_lengths (A:=A) pl.isList pl2.isList (by simp;omega) (by omega:A.units < cLine);rw[yA hl,dC];exact q
 |true=>
  obtain⟨its,rv,pl,_⟩:=I.tuple (show OC X.K H a xs by simpa using hsx);obtain⟨its2,rv2,pl2,_⟩:=I.tuple (show OC X.K H b ys by simpa using hsy);have n1:=rv.length;have n2:=rv2.length;have q:=SeqAt.RcAt.tuples (e:=λj=>eE (ds.getD j (.leaf .non)) (es.getD j (.leaf .non))) (show s.heap.IsTuple a its.toArray from pl) (show s.heap.IsTuple b its2.toArray from pl2) (by omega:A.units < cLine) (λj h1 h2=>by
    have h1:j < its.length:=by simpa using h1
    have h2:j < its2.length:=by simpa using h2
    have e:=ih j (its[j]) (its2[j]) its its2 rv rv2 (by simp[h1]) (by simp[h2]);simpa using e)
  have em:min its.toArray.size its2.toArray.size=min ds.length es.length:=by simp;omega
  have eb:(its.toArray.size == its2.toArray.size)=decide (ds.length=es.length):=by
   rw[yB];simp;omega
  rw[em,eb,Bool.and_comm] at q;exact q
mutual
theorem ei {X:Cx} {pins:List (Addr×Obj)} {σ:St} {H:Hp} {s:Shared} (I:wC X pins σ H s):∀(d e:Dv) (A:Around) (x y:V) (u v:Value),A.units+FD d < cLine->dE d e=true->cE X.K H d x->cE X.K H e y->FC x u->FC y v->SeqAt.EqAt A s u v (eE d e)
 |.leaf a,.leaf b,A,x,y,u,v,_,_,hx,hy,rx,ry=>by
  unfold cE at hx hy;obtain⟨rfl,fx⟩:=hx;obtain⟨rfl,fy⟩:=hy;rw[eE];exact MK rx ry fx fy
 |.leaf a,.seq t es,A,x,y,u,v,_,h,_,_,_,_=>by simp[dE] at h
 |.seq t ds,.leaf b,A,x,y,u,v,_,h,_,_,_,_=>by simp[dE] at h
 |.seq t ds,.seq t' es,A,x,y,u,v,hu,h,hx,hy,rx,ry=>by
  have h0:=h;rw[dE,ZA] at h;have ht:=RB.mp h.1;subst ht;have hx0:=hx;have hy0:=hy;unfold cE at hx hy;obtain⟨a,xs,rfl,hsx,hL⟩:=hx;obtain⟨b,ys,rfl,hsy,hM⟩:=hy;cases rx;cases ry;by_cases hab:a=b
  ·subst hab;rw[u6 I _ _ _ h0 hx0 hy0];exact SeqAt.EqAt.same _
  ·rw[FD] at hu;have hu1:A.in1.units+QC ds < cLine:=by show A.units+1+QC ds < cLine;omega
   have ih:=LR I ds es A.in1 xs ys hu1 h.2 hL hM;rw[eE];exact SeqAt.EqAt.of_refs hab (y6 I ⋯ hsx hsy hL.length hM.length ih)
theorem LR {X:Cx} {pins:List (Addr×Obj)} {σ:St} {H:Hp} {s:Shared} (I:wC X pins σ H s):∀(ds es:List Dv) (A:Around) (xs ys:List V),A.units+QC ds < cLine->rD ds es=true->uD X.K H ds xs->uD X.K H es ys->
  ∀(j:Nat) (u v:Value) (us vs:List Value),GC xs us->GC ys vs->us[j]?=some u->vs[j]?=some v->SeqAt.EqAt A s u v (eE (ds.getD j (.leaf .non)) (es.getD j (.leaf .non)))
 |[],es,A,xs,ys,_,_,hx,hy,j,u,v,us,vs,rx,ry,e1,e2=>by
  unfold uD at hx;subst hx;cases rx;simp at e1
 |d::ds,[],A,xs,ys,_,_,hx,hy,j,u,v,us,vs,rx,ry,e1,e2=>by
  unfold uD at hy;subst hy;cases ry;simp at e2
 |d::ds,e::es,A,xs,ys,hu,h,hx,hy,j,u,v,us,vs,rx,ry,e1,e2=>by
  rw[rD,ZA] at h;rw[QC] at hu;unfold uD at hx hy;obtain⟨x,r,rfl,hx,hxr⟩:=hx;obtain⟨y,r',rfl,hy,hyr⟩:=hy;cases rx with
  |cons p1 p2=>
   cases ry with
   |cons q1 q2=>
    cases j with
    |zero=>
     simp at e1 e2;subst e1 e2;exact ei I d e A x y _ _ ⋯ h.1 hx hy p1 q1
    |succ k=>
     have z:=LR I ds es A r r' ⋯ h.2 hxr hyr k u v _ _ p2 q2 (by simpa using e1) (by simpa using e2);simpa using z
end
theorem S6 {A:Around} {k:Nat} (hr:PD k A):A.units+4+2 < cLine:=by have:=hr.units;omega
noncomputable def iO (K:PySem.W.Frag) (n:Nat):R2:=λx y H Q=>∃t ds es,cE K H (.seq t ds) x/\cE K H (.seq t es) y/\rD ds es=true/\QC ds<=n/\Q (.bl (mD ds es)) H
noncomputable def eU (K:PySem.W.Frag) (n:Nat):R2:=λx y H Q=>∃t ds es,cE K H (.seq t ds) x/\cE K H (.seq t es) y/\rD ds es=true/\QC ds<=n/\Q (.bl (!mD ds es)) H
theorem jO {X:Cx} {pins:List (Addr×Obj)} {σ:St} {H:Hp} {s:Shared} (I:wC X pins σ H s) {A:Around} {n:Nat} (hu:A.units+n+2 < cLine) {t:Bool} {ds es:List Dv} {x y:V} {u v:Value} (hx:cE X.K H (.seq t ds) x) (hy:cE X.K H (.seq t es) y) (ha:rD ds es=true) (hd:QC ds<=n)
  (rx:FC x u) (ry:FC y v):SeqAt.RcAt A s u v (mD ds es):=by
 unfold cE at hx hy;obtain⟨a,xs,rfl,hsx,hL⟩:=hx;obtain⟨b,ys,rfl,hsy,hM⟩:=hy;cases rx;cases ry;exact y6 I ⋯ hsx hsy hL.length hM.length (LR I ds es A.in1 xs ys (by show A.units+1+QC ds < cLine;omega) ha hL hM)
theorem ZK {X:Cx} {n:Nat} (hu:X.A.units+n+2 < cLine):gF X (compareOp .Eq) (iO X.K n):=by
 intro pins s σ H x y v u Q I rx ry h;obtain⟨t,ds,es,hx,hy,ha,hd,q⟩:=h;exact jO I hu hx hy ha hd rx ry X.prog X.w X.xe _ ⟨.bl _,H,I,rfl,q⟩
theorem fi {X:Cx} {pins:List (Addr×Obj)} {σ:St} {H:Hp} {s:Shared} (I:wC X pins σ H s) {A:Around} {t:Bool} {ds es:List Dv} {a b:Addr} {xs ys:List V} (hu:A.units < cLine)
  (hsx:if t=true then OC X.K H a xs else aD X.K H a xs) (hsy:if t=true then OC X.K H b ys else aD X.K H b ys) (l1:ds.length=xs.length) (l2:es.length=ys.length)
  (ih:∀(j:Nat) (u v:Value) (us vs:List Value),GC xs us->GC ys vs->us[j]?=some u->vs[j]?=some v->SeqAt.EqAt A.in1 s u v (eE (ds.getD j (.leaf .non)) (es.getD j (.leaf .non)))):
  SeqAt.RcNeAt A s (.ref a) (.ref b) (!mD ds es):=by
 rw[dU];cases t with
 |false=>
  obtain⟨its,rv,pl,_⟩:=I.list (show aD X.K H a xs by simpa using hsx);obtain⟨its2,rv2,pl2,_⟩:=I.list (show aD X.K H b ys by simpa using hsy);have n1:=rv.length;have n2:=rv2.length;by_cases hl:ds.length=es.length
  ·have q:=SeqAt.RcNeAt.lists (e:=λj=>eE (ds.getD j (.leaf .non)) (es.getD j (.leaf .non))) pl.isList pl2.isList (by simp;omega) (by omega:A.units < cLine) (λj h1 h2=>by
    have h1:j < its.length:=by simpa using h1
    have h2:j < its2.length:=by simpa using h2
    have e:=ih j (its[j]) (its2[j]) its its2 rv rv2 (by simp[h1]) (by simp[h2]);simpa using e)
   rw[kA hl,Bool.true_and];have em:min ds.length es.length=its.toArray.size:=by simp;omega
   rw[em];exact q
  ·have q:=SeqAt.RcNeAt.lists_lengths (A:=A) pl.isList pl2.isList (by simp;omega) (by omega:A.units < cLine);rw[yA hl,dC];exact q
 |true=>
  obtain⟨its,rv,pl,_⟩:=I.tuple (show OC X.K H a xs by simpa using hsx);obtain⟨its2,rv2,pl2,_⟩:=I.tuple (show OC X.K H b ys by simpa using hsy);have n1:=rv.length;have n2:=rv2.length;have q:=SeqAt.RcNeAt.tuples (e:=λj=>eE (ds.getD j (.leaf .non)) (es.getD j (.leaf .non))) (show s.heap.IsTuple a its.toArray from pl) (show s.heap.IsTuple b its2.toArray from pl2) (by omega:A.units < cLine) (λj h1 h2=>by
    have h1:j < its.length:=by simpa using h1
    have h2:j < its2.length:=by simpa using h2
    have e:=ih j (its[j]) (its2[j]) its its2 rv rv2 (by simp[h1]) (by simp[h2]);simpa using e)
  have em:min its.toArray.size its2.toArray.size=min ds.length es.length:=by simp;omega
  have eb:(its.toArray.size == its2.toArray.size)=decide (ds.length=es.length):=by
   rw[yB];simp;omega
  rw[em,eb,Bool.and_comm] at q;exact q
theorem aL {X:Cx} {n:Nat} (hu:X.A.units+n+2 < cLine):gF X (compareOp .NotEq) (eU X.K n):=by
 intro pins s σ H x y v u Q I rx ry h;obtain⟨t,ds,es,hx,hy,ha,hd,q⟩:=h;unfold cE at hx hy;obtain⟨a,xs,rfl,hsx,hL⟩:=hx;obtain⟨b,ys,rfl,hsy,hM⟩:=hy;cases rx;cases ry;exact fi I ⋯ hsx hsy hL.length hM.length (LR I ds es X.A.in1 xs ys (by show X.A.units+1+QC ds < cLine;omega) ha hL hM) X.prog X.w X.xe _ ⟨.bl _,H,I,rfl,q⟩
noncomputable def HD (ns:List Int):List Dv:=ns.map λi=>.leaf (.int i)
theorem V6 {K:PySem.W.Frag} {H:Hp}:∀(ns:List Int),uD K H (HD ns) (ns.map V.int)
 |[]=>by unfold HD uD;rfl
 |n::ns=>by
  show uD K H (.leaf (.int n)::HD ns) (.int n::ns.map V.int);unfold uD;exact⟨_,_,rfl,by unfold cE;exact⟨rfl,rfl⟩,V6 ns⟩
theorem X6 {K:PySem.W.Frag} {H:Hp} {a:Addr} {ns:List Int} (h:OC K H a (ns.map V.int)):cE K H (.seq true (HD ns)) (.ref a):=by
 unfold cE;exact⟨a,_,rfl,by simpa using h,V6 ns⟩
theorem Y6:∀(ns ms:List Int),rD (HD ns) (HD ms)=true
 |[],_=>by unfold HD;simp[rD]
 |_::_,[]=>by unfold HD;simp[rD]
 |n::ns,m::ms=>by
  show rD (.leaf (.int n)::HD ns) (.leaf (.int m)::HD ms)=true;rw[rD,dE,Y6 ns ms];rfl
theorem kO:∀(ns:List Int),QC (HD ns)=0
 |[]=>by unfold HD;simp[QC]
 |n::ns=>by
  show QC (.leaf (.int n)::HD ns)=0;rw[QC,FD,kO ns];rfl
theorem Z6:∀(ns ms:List Int),mD (HD ns) (HD ms)=decide (ns=ms)
 |[],[]=>by unfold HD;simp[mD]
 |[],_::_=>by unfold HD;simp[mD]
 |_::_,[]=>by unfold HD;simp[mD]
 |n::ns,m::ms=>by
  show mD (.leaf (.int n)::HD ns) (.leaf (.int m)::HD ms)=_;rw[mD,eE,Z6 ns ms];show ((n == m)&&decide (ns=ms))=_;rw[yB];simp
end L2
namespace L2
open PySem PySem.Spec PyProof.Rows
noncomputable def vF (sc:Scope) (env:Env) (x:Str) (fs:List Str):Bool:=
 sc.kind == .function&&sc.names.all (λy=>y.2 != .cell&&(y.2 != .local || sc.names.lookup y.1 == some .local)&&(y.2 != .free || env.kindOf y.1 == some .cell || env.kindOf y.1 == some .free))&&
  sc.names.lookup x == some .local&&fs.all (λf=>sc.names.lookup f == some .free)
structure RE (sc:Scope) (env:Env) (x:Str) (fs:List Str):Prop where
 kind:sc.kind=.function
 nocell:∀y∈sc.names,y.2≠.cell
 own:∀y∈sc.names,y.2=.local->sc.names.lookup y.1=some .local
 fr:∀y∈sc.names,y.2=.free->env.kindOf y.1=some .cell\/env.kindOf y.1=some .free
 x:sc.names.lookup x=some .local
 fs:∀f∈fs,sc.names.lookup f=some .free
theorem RE.of {sc:Scope} {env:Env} {x:Str} {fs:List Str} (h:vF sc env x fs=true):RE sc env x fs:=by
 unfold vF at h;simp only[ZA,RB,List.all_eq_true,Bool.or_eq_true,bne_iff_ne,ne_eq] at h;obtain⟨⟨⟨h1,h2⟩,h3⟩,h4⟩:=h;refine⟨h1,λy hy=>(h2 y hy).1.1,λy hy e=>?_,λy hy e=>?_,h3,h4⟩
 ·rcases (h2 y hy).1.2 with z|z
  ·exact absurd e z
  ·exact z
 ·rcases (h2 y hy).2 with (z|z)|z
  ·exact absurd e z
  ·exact .inl z
  ·exact .inr z
theorem fU {env:Env}:∀(names:List (Str×NameKind)) (acc:List (Str×Addr)),(∀n,(n,NameKind.free)∈names->∃c,env.cells.lookup n=some c)->
  ∃cl,(forIn names acc λy r=>(do if (y.2 == NameKind.free)=true then do let c<-cellOf env y.1;pure (ForInStep.yield ((y.1,c)::r)) else pure (ForInStep.yield r):Sem (ForInStep (List (Str×Addr)))))=pure cl/\
   (∀n c,cl.lookup n=some c->acc.lookup n=some c\/env.cells.lookup n=some c)/\∀n,(∃c,acc.lookup n=some c)\/(n,NameKind.free)∈names->∃c,cl.lookup n=some c
 |[],acc,_=>⟨acc,rfl,λο ο e=>.inl e,λn h=>h.elim id λz=>nomatch z⟩
 |(n,k)::r,acc,h=>by
  have hr:∀m,(m,NameKind.free)∈r->∃c,env.cells.lookup m=some c:=λm hm=>h m (fA _ hm);by_cases hk:k=.free
  ·subst hk;obtain⟨c,hc⟩:=h n cA;obtain⟨cl,e,h1,h2⟩:=fU r ((n,c)::acc) hr;refine⟨cl,?_,λm c' hm=>?_,λm hm=>h2 m ?_⟩
   ·rw[List.forIn_cons];simp only[beq_self_eq_true,PB,cellOf,hc,pure_bind];exact e
   ·rcases h1 m c' hm with z|z
    ·rw[cC] at z;cases q:m == n with
     |true=>
      rw[q] at z;cases z;rw[RB.mp q];exact .inr hc
     |false=>rw[q] at z;exact .inl z
    ·exact .inr z
   ·rw[cC];rcases hm with ⟨c',z⟩|hm
    ·cases q:m == n with
     |true=>exact .inl ⟨c,rfl⟩
     |false=>exact .inl ⟨c',z⟩
    ·rcases wA.mp hm with z|z
     ·cases z;rw[beq_self_eq_true];exact .inl ⟨c,rfl⟩
     ·exact .inr z
  ·obtain⟨cl,e,h1,h2⟩:=fU r acc hr;refine⟨cl,?_,h1,λm hm=>h2 m ?_⟩
   ·rw[List.forIn_cons];have hb:(k == NameKind.free)=false:=by simpa using hk
    simp only[hb,IA,wB,pure_bind];exact e
   ·rcases hm with z|hm
    ·exact .inl z
    ·rcases wA.mp hm with z|z
     ·cases z;exact absurd rfl hk
     ·exact .inr z
theorem gi {env:Env} {sc:Scope} (h:∀n,(n,NameKind.free)∈sc.names->∃c,env.cells.lookup n=some c):
  ∃cl,closureFor sc env=pure cl/\(∀n c,cl.lookup n=some c->env.cells.lookup n=some c)/\∀n,(n,NameKind.free)∈sc.names->∃c,cl.lookup n=some c:=by
 obtain⟨cl,e,h1,h2⟩:=fU sc.names [] h;refine⟨cl,?_,λn c z=>(h1 n c z).elim (λq=>nomatch q) id,λn hn=>h2 n (.inr hn)⟩;unfold closureFor;simp only[bind_pure];exact e
theorem gU {env:Env}:∀{names:List (Str×NameKind)} {x:Str} {k:NameKind},(names.map λ(n,k)=>if (k == NameKind.free&&env.scope.kind == .function&&env.kindOf n == some .cell) then (n,NameKind.cell) else (n,k)).lookup x=some k->
  k=.cell\/k=.free->names.lookup x=some .free\/names.lookup x=some .cell
 |[],_,_,h,_=>by simp at h
 |(n,k0)::r,x,k,h,hk=>by
  have ih:=@gU env r x k;have h:List.lookup x ((if (k0 == NameKind.free&&env.scope.kind == .function&&env.kindOf n == some .cell)=true then (n,NameKind.cell) else (n,k0))::(r.map λ(n,k)=>if (k == NameKind.free&&env.scope.kind == .function&&env.kindOf n == some .cell) then (n,NameKind.cell) else (n,k)))=some k:=h;by_cases hc:(k0 == NameKind.free&&env.scope.kind == .function&&env.kindOf n == some .cell)=true
  ·rw[bA hc] at h;simp only[cC] at h ⊢;cases hx:x == n with
   |true=>
    simp only[ZA,RB] at hc;rw[hc.1.1];exact .inl rfl
   |false=>rw[hx] at h;exact ih h hk
  ·rw[aA hc] at h;simp only[cC] at h ⊢;cases hx:x == n with
   |true=>
    rw[hx] at h;cases h;rcases hk with rfl|rfl
    ·exact .inr rfl
    ·exact .inl rfl
   |false=>rw[hx] at h;exact ih h hk
theorem b7 {env:Env}:∀{names:List (Str×NameKind)} {x:Str},names.lookup x=some .free->
  (names.map λ(n,k)=>if (k == NameKind.free&&env.scope.kind == .function&&env.kindOf n == some .cell) then (n,NameKind.cell) else (n,k)).lookup x=some .cell\/(names.map λ(n,k)=>if (k == NameKind.free&&env.scope.kind == .function&&env.kindOf n == some .cell) then (n,NameKind.cell) else (n,k)).lookup x=some .free
 |[],_,h=>by simp at h
 |(n,k0)::r,x,h=>by
  have ih:=@b7 env r x;show List.lookup x ((if (k0 == NameKind.free&&env.scope.kind == .function&&env.kindOf n == some .cell)=true then (n,NameKind.cell) else (n,k0))::_)=_\/List.lookup x ((if (k0 == NameKind.free&&env.scope.kind == .function&&env.kindOf n == some .cell)=true then (n,NameKind.cell) else (n,k0))::_)=_;simp only[cC] at h;by_cases hc:(k0 == NameKind.free&&env.scope.kind == .function&&env.kindOf n == some .cell)=true
  ·rw[bA hc];simp only[cC];cases hx:x == n with
   |true=>exact .inl rfl
   |false=>rw[hx] at h;exact ih h
  ·rw[aA hc];simp only[cC];cases hx:x == n with
   |true=>rw[hx] at h;exact .inr h
   |false=>rw[hx] at h;exact ih h
noncomputable def zD (X:Cx) (scope:Scope) (cl:List (Str×Addr)) (C:Addr) (N:List Str) (s₀:Shared) (H₀:Hp) (fp:List Addr) (xe:Value->Shared->Prop):Cx:=
 {X with N:=N,s₀:=s₀,H₀:=H₀,env:=compEnvC scope cl C X.env,outer:=X.stack,stack:=X.stack,ex:=fp,fn:=λο=>false,pn:=[],xe:=xe}
theorem RM {X:Cx}:XW X (λο ο ο=>False):=λο ο ο ο ο ο ο ο ο ο ο ο ο ο ο h=>h.elim
inductive oH (g:TG) (tt:TT) (te:TE):Type where
 |mk:oH g tt te
noncomputable def PF (X:Cx) (ifs:List Expr) (tt:TT):Prop:=
 ∀(pins:List (Addr×Obj)) (s:Shared) (σ:St) (H:Hp) (Q:Bool->Hp->Prop),wC X pins σ H s->tt σ H Q->
  wpAny (model X.prog X.w) X.A (forIn ifs true λc r=>if r=true then do let ok<-isTrue c X.env (eval c X.env);pure (ForInStep.yield ok) else pure (ForInStep.yield r)) (TP X pins σ Q) X.xe s
noncomputable def tYes:TT:=λο H Q=>Q true H
theorem lO {X:Cx}:PF X [] tYes:=λο ο ο H ο I h=>by
 simp only[List.forIn_nil];exact OA ⟨H,I,h⟩
theorem MR {X:Cx} {c:Expr} {tt:TT} (h:PT X c tt):PF X [c] tt:=λpins s σ H Q I hw=>wpAny_tests_one (h pins s σ H Q I hw)
noncomputable def TH (g:TG) (tt:TT) (te:TE) (_:oH g tt te) (J:It) (σ0:St) (D:Addr) (Q:Hp->Prop) (H:Hp):Prop:=
 ∃W:Nat->Nat->List V->St->Hp->Prop,(∃m,W 0 m [] σ0 (yC H D (.lst [])))/\∀i m ys σ H,W i m ys σ H->
  (J.stop i H/\Q H)\/(J.go i H/\∃N:List V->St->Hp->Prop,(∀ys σ H,N ys σ H->∃m',m' < m/\W (i+1) m' ys σ H)/\
   ∀y H',J.yld i H y H'->g y σ H' λσ2 H2=>tt σ2 H2 λb H2'=>if b=true then te σ2 H2' λv H3=>H3 D=some (.lst ys)/\ys.length < sizeLine/\N (ys++[v]) σ2 (yC H3 D (.lst (ys++[v]))) else N ys σ2 H2')
noncomputable def UH (wi:TI) (ix:List Nat) (g:TG) (tt:TT) (te:TE) (h:oH g tt te):TE:=λσ H Q=>wi σ H λJ H1=>∀D,H1 D=none->TH g tt te h J (none::ix.map λi=>(σ[i]?).join) D (λH'=>Q (.ref D) H') H1
theorem ii {lo:Int} {n:Nat} {g:TG} {tt:TT} {te:TE} {h:oH g tt te} {σ0:St} {D:Addr} {Q:Hp->Prop} {H:Hp} (Pv:Nat->List V->St->Hp->Prop) (h0:Pv 0 [] σ0 (yC H D (.lst [])))
  (hs:∀i ys σ H,i < n->Pv i ys σ H->g (.int (lo+i)) σ H λσ2 H2=>tt σ2 H2 λb H2'=>if b=true then te σ2 H2' λv H3=>H3 D=some (.lst ys)/\ys.length < sizeLine/\Pv (i+1) (ys++[v]) σ2 (yC H3 D (.lst (ys++[v]))) else Pv (i+1) ys σ2 H2') (hd:∀ys σ H,Pv n ys σ H->Q H):
  TH g tt te h (iJ lo n) σ0 D Q H:=by
 refine⟨λi m ys σ H=>i+m=n/\Pv i ys σ H,⟨n,NB n,h0⟩,λi m ys σ H ⟨e,p⟩=>?_⟩;by_cases hi:i < n
 ·refine .inr ⟨hi,Pv (i+1),λys σ H q=>⟨m - 1,⋯,⋯,q⟩,?_⟩;rintro y H' ⟨rfl,rfl⟩;exact hs i ys σ H' hi p
 ·have e':i=n:=⋯;subst e';exact .inl ⟨iA _,hd ys σ H p⟩
theorem bL {K:PySem.W.Frag} {a:Addr} {xs:List V} {g:TG} {tt:TT} {te:TE} {h:oH g tt te} {σ0:St} {D:Addr} {Q:Hp->Prop} {H:Hp} (Pv:Nat->List V->St->Hp->Prop) (h0:Pv 0 [] σ0 (yC H D (.lst []))) (hl:∀i ys σ H,i<=xs.length->Pv i ys σ H->aD K H a xs)
  (hs:∀i x ys σ H,xs[i]?=some x->Pv i ys σ H->g x σ H λσ2 H2=>tt σ2 H2 λb H2'=>if b=true then te σ2 H2' λv H3=>H3 D=some (.lst ys)/\ys.length < sizeLine/\Pv (i+1) (ys++[v]) σ2 (yC H3 D (.lst (ys++[v]))) else Pv (i+1) ys σ2 H2') (hd:∀ys σ H,Pv xs.length ys σ H->Q H):
  TH g tt te h (CK K a) σ0 D Q H:=by
 refine⟨λi m ys σ H=>i+m=xs.length/\Pv i ys σ H,⟨xs.length,NB _,h0⟩,λi m ys σ H ⟨e,p⟩=>?_⟩;have hq:=hl i ys σ H ⋯ p;by_cases hi:i < xs.length
 ·have ex:xs[i]?=some xs[i]:=zA hi;refine .inr ⟨⟨xs,_,hq,ex⟩,Pv (i+1),λys σ H q=>⟨m - 1,⋯,⋯,q⟩,?_⟩;rintro y H' ⟨rfl,hy⟩;exact hs i y ys σ H' (hy xs hq) p
 ·have e':i=xs.length:=⋯;subst e';exact .inl ⟨⟨xs,hq,iA _⟩,hd ys σ H p⟩
theorem ji {prog:Program} {w:World} {A:Around} {R:Result->Shared->Prop} {s:Shared} {elt target iter:Expr} {ifs:List Expr} {scope:Scope} {pos:Pos} {it acc:Value} {env:Env} (I:Nat->Shared->Prop)
  (turn:∀n s,I n s->wpAny (model prog w) A (pyNext it) (λr s₁=>match r with
   |none=>R (.ok .next) s₁
   |some v=>wpAny (model prog w) A (letOwnedTupleGo target it v) (λο s₁'=>wpAny (model prog w) A (assign target env v) (λο s₂=>
    wpAny (model prog w) A (forIn ifs true λc r=>if r=true then do let ok<-isTrue c env (eval c env);pure (ForInStep.yield ok) else pure (ForInStep.yield r)) (λok s₃=>
     if ok=true then wpAny (model prog w) A (eval elt env) (λx s₄=>
      wpAny (model prog w) A (call (.builtin "list.append") [acc,x]) (λο s₅=>∃m,m < n/\I m s₅) (notedBy (model prog w) A env λe s'=>R (.error e) s') s₄) (notedBy (model prog w) A env λe s'=>R (.error e) s') s₃
     else ∃m,m < n/\I m s₃) (notedBy (model prog w) A env λe s'=>R (.error e) s') s₂) (notedBy (model prog w) A env λe s'=>R (.error e) s') s₁') (notedBy (model prog w) A env λe s'=>R (.error e) s') s₁) (notedBy (model prog w) A env λe s'=>R (.error e) s') s)
  (n:Nat) (h:I n s):codeAny (model prog w) A (.compLoop (.ListComp elt [⟨target,iter,ifs,0⟩] scope pos) 0 it acc env) R s:=by
 refine codeAny_loop rfl I (λn s hI=>?_) n h;show wpAny _ _ ((compTurn (.ListComp elt [⟨target,iter,ifs,0⟩] scope pos) 0 it acc env).onRaise (λx=>do noteFrame x env;theTreesLotGoes x)) _ _ s;refine wpAny_noted ?_;rw[compTurn_list];refine jA (wpAny_standAt (jA (rB (turn n s hI) (λr s₁ h₁=>?_) λο ο h'=>h')));cases r with
 |none=>exact OA h₁
 |some v=>
  refine jA (rB h₁ (λο s₁' h₁'=>?_) λο ο h'=>h');refine jA (rB h₁' (λο s₂ h₂=>jA (rB h₂ (λok s₃ h₃=>?_) λο ο h'=>h')) λο ο h'=>h');cases ok with
  |false=>exact OA ⟨rfl,h₃⟩
  |true=>
   exact jA (jA (rB h₃ (λx s₄ h₄=>jA (rB h₄ (λο s₅ h₅=>OA (OA ⟨rfl,h₅⟩)) λο ο h'=>h')) λο ο h'=>h'))
structure xJ (ck:Cx->Prop) (P:Program) (w:World) (K:PySem.W.Frag) (tg:Expr) (J:It) (fp:List Addr) (it:Addr) (tn:Nat->Heap->Prop):Prop where
 obj:∀i h,tn i h->∀b∈fp,∃o,h.get? b=some o/\∀v,o.data≠.cell v
 keep:∀i h h',tn i h->(∀b∈fp,∀o,h.get? b=some o->h'.get? b=some o)->tn i h'
 item:∀(X:Cx),X.prog=P->X.w=w->X.K=K->ck X->∀(i:Nat) (pins:List (Addr×Obj)) (s:Shared) (σ:St) (H:Hp) (E:Value->Shared->Prop),wC X pins σ H s->(∀b∈fp,iF X pins H b)->tn i s.heap->J.go i H->
  wpAny (model P w) X.A (pyNext (.ref it)) (λr s1=>∃u,r=some u/\wpAny (model P w) X.A (letOwnedTupleGo tg (.ref it) u) (λο s2=>∃x H',wC X pins σ H' s2/\FC x u/\J.yld i H x H'/\tn (i+1) s2.heap/\∀b∈fp,H' b=none) E s1) E s
 done:∀(X:Cx),X.prog=P->X.w=w->X.K=K->ck X->∀(i:Nat) (pins:List (Addr×Obj)) (s:Shared) (σ:St) (H:Hp) (E:Value->Shared->Prop),wC X pins σ H s->(∀b∈fp,iF X pins H b)->tn i s.heap->J.stop i H->
  wpAny (model P w) X.A (pyNext (.ref it)) (λr s1=>r=none/\wC X pins σ H s1) E s
 self:∀(A:Around) (i:Nat) (s:Shared) (Q:Value->Shared->Prop) (E:Value->Shared->Prop),tn i s.heap->Q (.ref it) s->wpAny (model P w) A (pyIter (.ref it)) Q E s
theorem dH.g {P:Program} {w:World} {K:PySem.W.Frag} {tg:Expr} {J:It} {fp:List Addr} {it:Addr} {tn:Nat->Heap->Prop} (T:dH P w K tg J fp it tn):xJ (λX=>X.calm=true) P w K tg J fp it tn:=⟨T.obj,T.keep,T.item,T.done,T.self⟩
section
variable {X:Cx}
theorem c7 {ck:Cx->Prop} {pins:List (Addr×Obj)} {σ:St} {H2:Hp} {s2:Shared} {it:Addr} {fp:List Addr} {tn:Nat->Heap->Prop} {J:It} {tg iter elt:Expr} {ifs:List Expr} {scope:Scope} {cl:List (Str×Addr)} {pos:Pos} {x:Str} {fs:List Str} {ix:List Nat} {g:TG} {tt:TT} {te:TE}
  {Qf:Addr->Hp->Prop} {E:Value->Shared->Prop} {RR:Value->Addr->Result->Shared->Prop}
  (I2:wC X pins σ H2 s2) (T:xJ ck X.prog X.w X.K tg J fp it tn) (st2:tn 0 s2.heap) (f2:∀b∈fp,iF X pins H2 b) (hc:∀C s₀ H₀ xe,ck (zD X scope cl C (x::fs) s₀ H₀ fp xe)) (S:RE scope X.env x fs)
  (c1:∀n c,cl.lookup n=some c->X.env.cells.lookup n=some c) (c2:∀n,(n,NameKind.free)∈scope.names->∃c,cl.lookup n=some c) (hix:ix.map (X.N[·]?)=fs.map some)
  (hg:∀C s₀ H₀ xe,PG (zD X scope cl C (x::fs) s₀ H₀ fp xe) tg g) (hf:∀C s₀ H₀ xe,PF (zD X scope cl C (x::fs) s₀ H₀ fp xe) ifs tt) (he:∀C s₀ H₀ xe,PE (zD X scope cl C (x::fs) s₀ H₀ fp xe) elt te)
  (h:∀D,H2 D=none->TH g tt te .mk J (none::ix.map λi=>(σ[i]?).join) D (Qf D) H2)
  (fin:∀D C H' s',wC X pins σ H' s'->Qf D H'->(∃m,s'.heap.Ns C m)->iF X pins H' C->RR (.ref D) C (.ok .next) s'):
  wpAny (model X.prog X.w) X.A (newList []) (λacc s₃=>wpAny (model X.prog X.w) X.A (newFunctionEnv scope X.env.globals cl [] X.env.qual none .none (some X.env)) (λcenv s₄=>
   codeAny (model X.prog X.w) X.A (.compStart (.ListComp elt [⟨tg,iter,ifs,0⟩] scope pos) 0 (.ref it) acc {cenv with scope:=relabel scope X.env}) (RR acc cenv.locals) s₄) E s₃) E s2:=by
 have hD:H2 s2.heap.objs.size=none:=I2.hok.fresh (iA _);obtain⟨W,⟨m0,w0⟩,turn⟩:=h _ hD;refine wpAny_newObj_type (wpAny_newFunctionEnv S.nocell (by intro y hy;simp at hy) (λh₁ hns₁ hsb₁=>?_) S.kind);have I3:wC X pins σ (yC H2 s2.heap.objs.size (.lst [])) {s2 with heap:=s2.heap.push {cls:=.type "list",dict:=none,data:=.seq ([]:List Value).toArray}}:=
  I2.laid (t':=s2.toks) (λb u e=>CA _ e) (iA _) ⟨by decide,[],0,.nil,XA _ rfl⟩
 obtain⟨e3,he3⟩:∃s3:Shared,s3={s2 with heap:=s2.heap.push {cls:=.type "list",dict:=none,data:=.seq ([]:List Value).toArray}}:=⟨_,rfl⟩
 rw[<-he3] at I3;have hh3:s2.heap.push {cls:=.type "list",dict:=none,data:=.seq ([]:List Value).toArray}=e3.heap:=by rw[he3]
 have sz3:e3.heap.objs.size=s2.heap.objs.size+1:=by rw[<-hh3,Heap.size_push]
 dsimp only at hns₁ hsb₁ ⊢;rw[hh3] at hns₁ hsb₁ ⊢;generalize hH3:yC H2 s2.heap.objs.size (.lst [])=H3 at *;have live:∀b∈fp,b < s2.heap.objs.size:=λb hb=>let ⟨_,e,_⟩:=T.obj _ _ st2 b hb;GA e
 have f3:∀b∈fp,iF X pins H3 b:=λb hb=>by
  refine⟨?_,(f2 b hb).2⟩;rw[<-hH3,WC (cB (live b hb))];exact (f2 b hb).1
 have C0:iF X pins H3 e3.heap.objs.size:=I3.fpOk (iA _) (I3.hok.fresh (iA _));have old3:∀b o,e3.heap.get? b=some o->h₁.get? b=some o:=λb o e=>hsb₁.extBut b o (cB (GA e)) (CA _ e);have nofs:∀b∈fp,b∉VD X.stack:=λb hb z=>(wA.mp (I3.stkSub b z)).elim (f3 b hb).2.1 (f3 b hb).2.2.1;have hst1:tn 0 h₁:=T.keep _ _ _ st2 λb ο o e=>old3 b o (by rw[<-hh3];exact CA _ e);have e0:=I3.env0;have ok:∀xe,(zD X scope cl e3.heap.objs.size (x::fs) e3 H3 fp xe).Ok:=λxe=>by
  refine⟨I3.ok.mod,S.kind,I3.ok.glob,I3.ok.blt,iA _,λy z c h1 h2=>I3.ok.inj y z c (c1 _ _ h1) (c1 _ _ h2),λy hy=>?_,λy c z=>?_,I3.ok.hd,I3.ok.frames,.inl rfl,λb hb=>⟨?_,λy c e=>(f3 b hb).2.2.2.2.1 y c (c1 _ _ e)⟩,e0.bs,e0.bsz,λb o e hb=>?_,nofs,e0.funs,e0.frf⟩
  ·have q:scope.names.lookup y=some .free\/scope.names.lookup y=some .cell:=by
    rcases hy with hy|hy
    ·exact gU hy (.inl rfl)
    ·exact gU hy (.inr rfl)
   rcases q with q|q
   ·exact c2 y (PySem.mem_of_lookup q)
   ·exact absurd rfl (S.nocell _ (PySem.mem_of_lookup q))
  ·cases z
  ·exact cB (JA (live b hb) (by rw[sz3];exact Nat.le_succ _))
  ·rcases (f3 b hb).2.2.2.1 with z|z
   ·exact I3.ok.noex b o e z
   ·exact absurd (JA (GA e) (YA I3.ok.bsz z)) (lC _)
 have cellUp:∀c v,e3.heap.IsCell c v->h₁.IsCell c v:=λc v ⟨o,ho,hd⟩=>⟨o,old3 _ _ ho,hd⟩
 have J0:∀xe,wC (zD X scope cl e3.heap.objs.size (x::fs) e3 H3 fp xe) [] (none::ix.map λi=>(σ[i]?).join) H3 {e3 with heap:=h₁,toks:=e3.toks+([]:List (Str×Value)).length}:=λxe=>by
  have hk:∀b o,e3.heap.get? b=some o->h₁.get? b=some o:=old3;refine⟨ok xe,rfl,I3.bare,Un.kept hk,⟨_,hns₁,λi y v h1 h2 h3=>?_⟩,λy c e=>?_,I3.hok.fresh (iA _),λy c e=>I3.freeC y c (c1 _ _ e),λp hp=>absurd (show p∈([]:List (Addr×Obj)) from hp) (by simp),I3.hok.kept hk,?_⟩
  ·cases i with
   |zero=>cases h2
   |succ i=>
    have h1:fs[i]?=some y:=h1;have h2:(ix.map λi=>(σ[i]?).join)[i]?=some (some v):=h2;have hy:=S.fs y (fB h1);rw[UA] at h2;cases ej:ix[i]? with
    |none=>rw[ej] at h2;cases h2
    |some j=>
     rw[ej] at h2;have h2:(σ[j]?).join=some v:=FA h2;have hσ:σ[j]?=some (some v):=by
      cases q:σ[j]? with
      |none=>rw[q] at h2;cases h2
      |some o=>rw[q] at h2;cases o with
       |none=>cases h2
       |some o=>cases h2;rfl
     have hN:X.N[j]?=some y:=by
      have z:=congrArg (·[i]?) hix;simp only[UA,ej,h1,Option.map_some] at z;exact FA z
     have kf:=S.fr _ (PySem.mem_of_lookup hy) rfl;obtain⟨m,hn,hl⟩:=I3.loc;obtain⟨u,r,l⟩:=hl j y v hN hσ (by rcases kf with k|k;exact .inr (.inl k);exact .inr (.inr k));refine⟨u,r,.inr ⟨b7 hy,?_⟩⟩;rcases l with ⟨l,_⟩|⟨_,c,e,z⟩
     ·rcases kf with k|k<;>(rw[l] at k;cases k)
     ·obtain⟨c',e'⟩:=c2 y (PySem.mem_of_lookup hy);have q:=c1 _ _ e';rw[e] at q;cases q;exact⟨c,e',cellUp _ _ z⟩
  ·obtain⟨v,z⟩:=I3.cell y c (c1 _ _ e);exact⟨v,cellUp _ _ z⟩
  ·have z:=congrArg List.length hix;simp only[dA] at z;show (none::_:St).length=(x::fs).length;simp only[jB,dA,z]
 have back:∀{xe σ' H' s'},wC (zD X scope cl e3.heap.objs.size (x::fs) e3 H3 fp xe) [] σ' H' s'->wC X pins σ H' s':=λ{xe σ' H' s'} J=>
  I3.call' (s':=s') (ch:=fp) J.os J.base J.hok J.bare λb hb=>⟨(f3 b hb).2.2.2.1,(f3 b hb).2.1,(f3 b hb).2.2.2.2.1,(f3 b hb).2.2.2.2.2⟩
 have stat:∀{xe} {H':Hp},(∀b∈fp,H' b=none)->∀b∈fp,iF (zD X scope cl e3.heap.objs.size (x::fs) e3 H3 fp xe) [] H' b:=λ{xe H'} hn b hb=>
  ⟨hn b hb,cB (JA (live b hb) (by rw[sz3];exact Nat.le_succ _)),nofs b hb,.inl hb,λy c e=>(f3 b hb).2.2.2.2.1 y c (c1 _ _ e),λp hp=>absurd (show p∈([]:List (Addr×Obj)) from hp) (by simp)⟩
 have loop:∀s4:Shared,s4={e3 with heap:=h₁,toks:=e3.toks+([]:List (Str×Value)).length}->
   codeAny (model X.prog X.w) X.A (.compLoop (.ListComp elt [⟨tg,iter,ifs,0⟩] scope pos) 0 (.ref it) (.ref s2.heap.objs.size) (compEnvC scope cl e3.heap.objs.size X.env)) (RR (.ref s2.heap.objs.size) e3.heap.objs.size) s4:=by
  rintro s4 rfl
  let xe:=notedBy (model X.prog X.w) X.A (compEnvC scope cl e3.heap.objs.size X.env) λe s'=>RR (.ref s2.heap.objs.size) e3.heap.objs.size (.error e) s'
  refine ji (λn s'=>∃i ys σ' H',wC (zD X scope cl e3.heap.objs.size (x::fs) e3 H3 fp xe) [] σ' H' s'/\tn i s'.heap/\(∀b∈fp,H' b=none)/\W i n ys σ' H') ?_ m0 ⟨0,[],_,_,J0 xe,hst1,λb hb=>(f3 b hb).1,w0⟩;rintro n s5 ⟨i,ys,σ5,H5,J5,st5,fr5,w5⟩;rcases turn i n ys σ5 H5 w5 with ⟨stop,qn⟩|⟨go,N,hN,step⟩
  ·refine pD (T.done (zD X scope cl e3.heap.objs.size (x::fs) e3 H3 fp xe) rfl rfl rfl (hc _ _ _ _) i [] s5 σ5 H5 xe J5 (stat fr5) st5 stop) λr s6 zz=>?_;obtain⟨hr,J6⟩:=zz;subst hr;obtain⟨m,hn,_⟩:=J6.loc;exact fin _ _ H5 s6 (back J6) qn ⟨m,hn⟩ ⟨J6.free,C0.2⟩
  ·refine pD (T.item (zD X scope cl e3.heap.objs.size (x::fs) e3 H3 fp xe) rfl rfl rfl (hc _ _ _ _) i [] s5 σ5 H5 xe J5 (stat fr5) st5 go) λr s6 zz=>?_;obtain⟨u,hr,h6⟩:=zz;subst hr;refine pD h6 λ_ s7 zz=>?_;obtain⟨y,H7,J7,r7,y7,st7,fr7⟩:=zz;have J7':=J7.pinned (stat fr7) (T.obj _ _ st7);refine pD (hg _ _ _ xe _ s7 σ5 H7 y u _ J7' r7 (step y H7 y7)) λ_ s8 zz=>?_;obtain⟨σ8,H8,J8,q8⟩:=zz;refine pD (hf _ _ _ xe _ s8 σ8 H8 _ J8 q8) λok s8' zz=>?_;obtain⟨H8',J8',q8'⟩:=zz;cases ok with
   |false=>
    obtain⟨m',hm',w9⟩:=hN _ _ _ (by simpa using q8');refine⟨m',hm',i+1,ys,σ8,_,J8'.unpinned,T.keep _ _ _ st7 λb hb o e=>(J8'.pin (b,o) (BA _ (BA _ (CM hb e)))).1,λb hb=>?_,w9⟩;obtain⟨o,e,d⟩:=T.obj _ _ st7 b hb;exact (J8'.pin (b,o) (BA _ (BA _ (CM hb e)))).2.1
   |true=>
   rw[bA rfl] at q8' ⊢;refine pD (he _ _ _ xe _ s8' σ8 H8' _ J8' q8') λuv s9 zz=>?_;obtain⟨v,H9,J9,r9,hD9,hl9,n9⟩:=zz;obtain⟨m',hm',w9⟩:=hN _ _ _ n9;refine pD (PN (X:=zD X scope cl e3.heap.objs.size (x::fs) e3 H3 fp xe) _ s9 σ8 H9 (.ref s2.heap.objs.size) [v] _ [uv] (λο H'=>H'=yC H9 s2.heap.objs.size (.lst (ys++[v]))) J9 rfl (.cons r9 .nil) ⟨_,ys,v,rfl,rfl,hD9,hl9,rfl⟩) λ_ s10 zz=>?_;obtain⟨_,H10,J10,_,eH⟩:=zz;subst eH;refine⟨m',hm',i+1,ys++[v],σ8,_,J10.unpinned,T.keep _ _ _ st7 λb hb o e=>(J10.pin (b,o) (BA _ (BA _ (CM hb e)))).1,λb hb=>?_,w9⟩;obtain⟨o,e,d⟩:=T.obj _ _ st7 b hb;exact (J10.pin (b,o) (BA _ (BA _ (CM hb e)))).2.1
 subst he3;exact codeAny_compStart_list (loop _ rfl) (T.self X.A 0 _ _ _ hst1 (loop _ rfl))
theorem RE.clos {pins:List (Addr×Obj)} {σ:St} {H:Hp} {s:Shared} {scope:Scope} {x:Str} {fs:List Str} (S:RE scope X.env x fs) (I:wC X pins σ H s):
  ∃cl,closureFor scope X.env=pure cl/\(∀n c,cl.lookup n=some c->X.env.cells.lookup n=some c)/\∀n,(n,NameKind.free)∈scope.names->∃c,cl.lookup n=some c:=
 gi λn hn=>I.ok.has n (S.fr _ hn rfl)
theorem mO {tg iter elt:Expr} {ifs:List Expr} {scope:Scope} {pos:Pos} {x:Str} {fs:List Str} {ix:List Nat} {wi:TI} {g:TG} {tt:TT} {te:TE} (hc:X.calm=true) (hi:PI X tg iter wi) (hk:vF scope X.env x fs=true) (hix:ix.map (X.N[·]?)=fs.map some)
  (hg:∀cl C s₀ H₀ fp xe,PG (zD X scope cl C (x::fs) s₀ H₀ fp xe) tg g) (hf:∀cl C s₀ H₀ fp xe,PF (zD X scope cl C (x::fs) s₀ H₀ fp xe) ifs tt) (he:∀cl C s₀ H₀ fp xe,PE (zD X scope cl C (x::fs) s₀ H₀ fp xe) elt te) (hs:∀x,foldedSetIterable iter X.env x=pure x:=by intro _;rfl):
  PE X (.ListComp elt [⟨tg,iter,ifs,0⟩] scope pos) (UH wi ix g tt te .mk):=by
 intro pins s σ H Q I h;have S:=RE.of hk;obtain⟨cl,hcl,c1,c2⟩:=S.clos I;rw[eval_ListComp];refine wpAny_comprehension_free (use:=none) rfl hs hcl S.kind S.own (pD (hi pins s σ H _ I h) λv s1 h1=>pD h1 λitv s2 h2=>?_);obtain⟨it,fp,tn,J,H2,e,I2,T,st2,f2,q⟩:=h2;subst e;refine c7 (RR:=λacc C=>compPost (model X.prog X.w) X.A X.xe none (EP X pins σ Q) acc C) I2 T.g st2 f2 (λο ο ο ο=>hc) S c1 c2 hix (λC s₀ H₀ xe=>hg cl C s₀ H₀ fp xe) (λC s₀ H₀ xe=>hf cl C s₀ H₀ fp xe) (λC s₀ H₀ xe=>he cl C s₀ H₀ fp xe) q λD C H' s' I' q' ⟨m,hn⟩ ⟨f0,f1,_,f3,f4,f5⟩=>?_;exact⟨m,hn,λh' hs'=>⟨.ref D,H',I'.turned (t':=s'.toks) (λb o hb e=>(hs'.2 b hb).trans e) f0 f1 f3 f4 f5,rfl,q'⟩⟩
theorem NR {tg iter elt:Expr} {ifs:List Expr} {scope:Scope} {pos spos py:Pos} {x y:Str} {i:Nat} {fs:List Str} {ix:List Nat} {wi:TI} {g:TG} {tt:TT} {te:TE} (hN:X.N.Nodup) (hy:X.N[i]?=some y) (hl:X.env.kindOf y=some .local) (hc:X.calm=true) (hi:PI X tg iter wi)
  (hk:vF scope X.env x fs=true) (hix:ix.map (X.N[·]?)=fs.map some)
  (hg:∀cl C s₀ H₀ fp xe,PG (zD X scope cl C (x::fs) s₀ H₀ fp xe) tg g) (hf:∀cl C s₀ H₀ fp xe,PF (zD X scope cl C (x::fs) s₀ H₀ fp xe) ifs tt) (he:∀cl C s₀ H₀ fp xe,PE (zD X scope cl C (x::fs) s₀ H₀ fp xe) elt te)
  (hsw:swapsWith (.ListComp elt [⟨tg,iter,ifs,0⟩] scope pos) (some (.Name y py)) spos.line X.env=pure true:=by rfl) (hs:∀x,foldedSetIterable iter X.env x=pure x:=by intro _;rfl):
  PS X (.Assign [.Name y py] (.ListComp elt [⟨tg,iter,ifs,0⟩] scope pos) spos) (BK (UH wi ix g tt te .mk) (XG i)):=by
 intro pins s σ H D I h;have S:=RE.of hk;obtain⟨cl,hcl,c1,c2⟩:=S.clos I;rw[exec_Assign_Name_used _ _ _ _ hsw];refine jA (wpAny_standAt (jA ?_));show wpAny _ X.A (do let _<-comprehension (.ListComp elt [⟨tg,iter,ifs,0⟩] scope pos) scope X.env _ (newList []) false (eval iter X.env) (some (assign (.Name y py) X.env))) _ _ s;refine jA (rB (wpAny_comprehension_free (use:=some (assign (.Name y py) X.env)) (Q:=λο s'=>SP X pins D .next s') rfl hs hcl S.kind S.own
  (pD (hi pins s σ H _ I h) λv s1 h1=>pD h1 λitv s2 h2=>?_)) (λο s' hq=>OA (OA hq)) λο ο e=>e)
 obtain⟨it,fp,tn,J,H2,e,I2,T,st2,f2,q⟩:=h2;subst e;refine c7 (RR:=λacc C=>compPost (model X.prog X.w) X.A X.xe (some (assign (.Name y py) X.env)) (λο s'=>SP X pins D .next s') acc C) I2 T.g st2 f2 (λο ο ο ο=>hc) S c1 c2 hix (λC s₀ H₀ xe=>hg cl C s₀ H₀ fp xe) (λC s₀ H₀ xe=>hf cl C s₀ H₀ fp xe) (λC s₀ H₀ xe=>he cl C s₀ H₀ fp xe) q
  λD' C H' s' I' q' ⟨m,hn⟩ ⟨f0,f1,_,f3,f4,f5⟩=>?_
 show wpAny _ X.A (assign (.Name y py) X.env (.ref D')) _ _ _;refine wpAny_assign_Name (Y2 (v:=.ref D') I' hN hy (.inl hl) rfl (λs'' I'' ⟨a,sb,ha⟩=>?_) (.inr hl));have hne:C≠a:=by
  rcases ha with ha|ha
  ·rw[ha];exact f1
  ·exact λz=>f4 _ _ ha z.symm
 exact⟨m,hn.sameBut sb hne,λh' hs'=>⟨_,H',I''.turned (t':=s''.toks) (λb o hb e=>(hs'.2 b hb).trans e) f0 f1 f3 f4 f5,q'⟩⟩
end
end L2
namespace L2
open PySem PySem.Spec PyProof.Rows
section
variable {X:Cx} {pins:List (Addr×Obj)} {σ:List (Option V)} {H H':Hp} {s:Shared} {h':Heap}
end
section
variable {X:Cx}
end
theorem d7:∀{ns:List Int} {us:List Value},GC (ns.map V.int) us->IntsAre us ns
 |[],_,h=>by cases h;exact .nil
 |n::ns,_,h=>by
  cases h with
  |cons r rr=>
   obtain⟨t,rfl⟩:=r;exact .cons _ _ (d7 rr)
theorem e7:∀{ns:List Int} {us:List Value},IntsAre us ns->GC (ns.map V.int) us:=by
 intro ns us h
 induction h with
 |nil=>exact .nil
 |cons n t _ ih=>exact .cons ⟨t,rfl⟩ ih
end L2
namespace L2
open PySem PySem.Spec PyProof.Rows
section
variable {X:Cx} {pins:List (Addr×Obj)} {σ:St} {H:Hp} {s:Shared} {a:Addr} {kvs:List (Key×V)} {k:Key} {u r:Value} {z:V} {A:Around} {E:Value->Shared->Prop}
end
section
variable {X:Cx} {o e f:Expr} {apos cpos:Pos} {td ty tx:TE}
end
theorem ki {X:Cx} (hc:X.calm=true):lE X (.builtin "sum") (λxs H Q=>∃(p:Addr) (ns:List Int),xs=[.ref p]/\aD X.K H p (ns.map V.int)/\Q (.int ns.sum) H):=by
 intro pins s σ H xs us Q I r h;obtain⟨p,ns,rfl,hq,q⟩:=h;obtain⟨u,rfl,rx⟩:=BF r;cases rx;obtain⟨its,r',pl,hz⟩:=I.list hq;have hi:=d7 r';obtain⟨ps,hx⟩:=hi.allInts.items;have e:preSum (numAt ps) ps.size=ns.sum:=by
  have h1:=hi.numsOf;rw[preSum_eq,MB (by simp),<-h1,<-nums_intItems,<-hx]
 have hl:=pl.isList;rw[hx] at hl;refine sum_intListG (I.ok.hd hc) hl λh' tk t' hk=>?_;rw[e];exact⟨.int ns.sum,H,I.kept (t':=tk) hk,⟨t',rfl⟩,q⟩
theorem f7:∀{bs:List Bool} {us:List Value},GC (bs.map V.bl) us->LSm.BoolsAre us bs
 |[],_,h=>by cases h;exact .nil
 |b::bs,_,h=>by
  cases h with
  |cons r rr=>
   cases r;exact .cons _ (f7 rr)
theorem i7 {X:Cx} (hc:X.calm=true):lE X (.builtin "any") (λxs H Q=>∃(p:Addr) (bs:List Bool),xs=[.ref p]/\aD X.K H p (bs.map V.bl)/\Q (.bl (bs.any id)) H):=by
 intro pins s σ H xs us Q I r h;obtain⟨p,bs,rfl,hq,q⟩:=h;obtain⟨u,rfl,rx⟩:=BF r;cases rx;obtain⟨its,r',pl,hz⟩:=I.list hq;have hb:=f7 r';have hl:=pl.isList;have hlt:p < s.heap.objs.size:=by obtain⟨_,e,_⟩:=id hl;exact GA e
 refine call_any_walk (wpAny_pyIter_list hl ?_);refine⟨s.heap.objs.size,[s.heap.objs.size,p],[s.heap.objs.size],its.toArray.size,_,_,λi=>(bs[i]?).getD false,rfl,Walks.list (A:=X.A.in1) (I.ok.hd hc) _ p (cB hlt) its.toArray,
  ⟨⟨_,XA _ rfl,rfl,rfl⟩,hl.push _⟩,λi v s' Q' E' hP hQ=>?_,λh' tk hk=>?_⟩
 ·obtain⟨b,e,rfl⟩:=hb.get i v (by simpa using hP);simp only[e,Option.getD_some] at hQ;exact WB hQ
 ·have e:((List.range its.toArray.size).any λi=>(bs[i]?).getD false)=bs.any id:=by
   rw[VA,hb.length];exact LSm.range_any bs
  rw[e];exact⟨.bl (bs.any id),H,I.kept (t':=tk) (LSm.kept_iter hk),rfl,q⟩
theorem j7:∀{ns:List Int} {us:List Value},us.length=ns.length->(∀(j:Nat) v,us[j]?=some v->∃t i,ns[j]?=some i/\v=Value.int i t)->IntsAre us ns
 |[],[],_,_=>.nil
 |_::_,[],h,_=>by cases h
 |[],_::_,h,_=>by cases h
 |n::ns,u::us,hl,h=>by
  obtain⟨t,i,e1,e2⟩:=h 0 u rfl;have e1:n=i:=by simpa using e1
  subst e1 e2;exact .cons _ _ (j7 (by simpa using hl) λj v e=>by simpa using h (j+1) v (by simpa using e))
theorem yJ {κ:Type} {kvs:List (κ×V)} {vs:List (κ×Value)} (r:KV kvs vs):∀(j:Nat) (k:κ) (x:Value),vs[j]?=some (k,x)->∃v,kvs[j]?=some (k,v)/\FC v x:=by
 unfold KV at r
 induction r with
 |nil=>intro j k x e;simp at e
 |cons q _ ih=>
  intro j k x e;cases j with
  |zero=>
   simp at e;subst e;exact⟨_,by simp;exact Prod.ext q.1 rfl,q.2⟩
  |succ j=>simpa using ih j k x (by simpa using e)
inductive cL (c:TT) (tb:TS):Type where
 |mk:cL c tb
inductive dL (tb:TS):Type where
 |mk:dL tb
noncomputable def zJ (c:TT) (tb:TS) (_:cL c tb):TS:=IH c tb
noncomputable def AJ (tb:TS) (_:dL tb) (Pv:Nat->St->Hp->Prop) (m:Nat) (D:BE) (σ:St) (H:Hp):Prop:=
 ∃N:St->Hp->Prop,(∀σ' H',N σ' H'->∃m',m' < m/\Pv m' σ' H')/\tb {D with nx:=N,ct:=N,bk:=D.nx} σ H
theorem iU {X:Cx} {c:Expr} {body:List Stmt} {tc:TT} {tb:TS} {pos:Pos} (hp:PassesOwn (model X.prog X.w) X.A X.env X.xe) (hc:PT X c tc) (hb:TF X body tb):PS X (.While c body [] pos) (zJ tc tb .mk):=Wf hp hc hb
theorem jU {c:TT} {tb:TS} {h:cL c tb} {D:BE} {σ:St} {H:Hp} (Pv:Nat->St->Hp->Prop) (m0:Nat) (h0:Pv m0 σ H)
 (hs:∀m σ H,Pv m σ H->c σ H λb H1=>if b=true then AJ tb .mk Pv m D σ H1 else D.nx σ H1):zJ c tb h D σ H:=⟨Pv,⟨m0,h0⟩,hs⟩
theorem VH {tb:TS} {h:dL tb} {Pv:Nat->St->Hp->Prop} {m:Nat} {D:BE} {σ:St} {H:Hp}
 (q:tb {D with nx:=λσ' H'=>∃m',m' < m/\Pv m' σ' H',ct:=λσ' H'=>∃m',m' < m/\Pv m' σ' H',bk:=D.nx} σ H):AJ tb h Pv m D σ H:=⟨_,λο ο h=>h,q⟩
end L2
namespace L2
open PySem PySem.Spec PyProof.Rows
section
variable {X:Cx} {pins:List (Addr×Obj)} {σ:List (Option V)} {H:Hp} {s:Shared} {a:Addr}
theorem wC.rewrite {u v:HO} (I:wC X pins σ H s) (e:H a=some u) (hn:∀b,u≠.own b) (ht:∀xs,u≠.tup xs) (h0:∀w,X.H₀ a=some w->(∃o z,w=.frz o z)\/(∃xs,w=.tup xs)\/(∃ps,w=.tbl ps)->False) (new:iD X.prog X.w (yC H a v) s.heap a v):
  wC X pins σ (yC H a v) s where
 ok:=I.ok
 os:=I.os
 bare:=I.bare
 base:=⟨I.base.keep,I.base.slot,λb o q n hx=>by
   have:=I.base.free b o q n hx;rw[WC (λz=>by rw[z,e] at this;cases this)];exact this,I.base.there,
  λb xs q=>by
   have hb:b≠a:=λz=>h0 _ (z ▸ q) (.inr (.inl ⟨_,rfl⟩));rw[WC hb];exact I.base.tups b xs q,
  λb o z q=>by
   have hb:b≠a:=λz=>h0 _ (z ▸ q) (.inl ⟨_,_,rfl⟩);rw[WC hb];exact I.base.frzs b o z q,
  λb ps q=>by
   have hb:b≠a:=λz=>h0 _ (z ▸ q) (.inr (.inr ⟨_,rfl⟩));rw[WC hb];exact I.base.tbls b ps q⟩
 loc:=I.loc
 cell:=I.cell
 free:=by rw[WC (Ne.symm (AE e I.free))];exact I.free
 freeC:=λx c q=>by
  have:=I.freeC x c q;rw[WC (Ne.symm (AE e this))];exact this
 pin:=λp hp=>by
  obtain⟨p1,p2,p3⟩:=I.pin p hp;exact⟨p1,by rw[WC (Ne.symm (AE e p2))];exact p2,p3⟩
 hok:=λb w q=>by
  by_cases hb:b=a
  ·subst hb;rw[SC] at q;cases q;exact new
  ·rw[WC hb] at q;refine (I.hok b w q).stay (λο ο ο q=>q) (λc q=>?_) λc xs q=>?_
   ·rw[WC (λz=>by rw[z,e] at q;exact hn _ (FA q))];exact q
   ·rw[WC (λz=>by rw[z,e] at q;exact ht _ (FA q))];exact q
 len:=I.len
theorem wC.still {w:HO} (I:wC X pins σ H s) (h:X.H₀ a=some w) (hw:(∃o z,w=.frz o z)\/(∃xs,w=.tup xs)\/(∃ps,w=.tbl ps)):(∃o z,H a=some (.frz o z))\/(∃xs,H a=some (.tup xs))\/(∃ps,H a=some (.tbl ps)):=by
 rcases hw with ⟨o,z,rfl⟩|⟨xs,rfl⟩|⟨ps,rfl⟩
 ·exact .inl ⟨o,z,I.base.frzs a o z h⟩
 ·exact .inr (.inl ⟨xs,I.base.tups a xs h⟩)
 ·obtain⟨m,e⟩:=I.base.tbls a ps h;exact .inr (.inr ⟨_,e⟩)
theorem wC.freeze {kvs:List (Key×V)} (I:wC X pins σ H s) (e:H a=some (.dK kvs)):∃o,s.heap.get? a=some o/\wC X pins σ (yC H a (.frz o (.dK kvs))) s:=by
 obtain⟨z,hd,vs,rel,o,es,ep,ho,r⟩:=I.hok a _ e;refine⟨o,ho,I.rewrite e (λο z=>by cases z) (λο z=>by cases z) (λw hw h=>?_) ⟨ho,z,hd,vs,rel,o,es,ep,ho,r⟩⟩;rcases I.still hw h with ⟨_,_,q⟩|⟨_,q⟩|⟨_,q⟩<;>(rw[e] at q;cases q)
theorem wC.thaw {kvs:List (Key×V)} {o:Obj} (I:wC X pins σ H s) (e:H a=some (.frz o (.dK kvs))) (h0:∀o u,X.H₀ a≠some (.frz o u)):wC X pins σ (yC H a (.dK kvs)) s:=by
 obtain⟨ho,z,hd,vs,rel,dd⟩:=I.hok a _ e;refine I.rewrite e (λο z=>by cases z) (λο z=>by cases z) (λw hw h=>?_) ⟨z,hd,vs,rel,dd⟩;rcases h with ⟨_,_,rfl⟩|h
 ·exact h0 _ _ hw
 ·rcases I.still hw (.inr h) with ⟨o',z',q⟩|⟨_,q⟩|⟨_,q⟩
  ·rcases h with ⟨xs,rfl⟩|⟨ps,rfl⟩
   ·have:=I.base.tups a xs hw;rw[e] at this;cases this
   ·obtain⟨m,this⟩:=I.base.tbls a ps hw;rw[e] at this;cases this
  ·rw[e] at q;cases q
  ·rw[e] at q;cases q
end
noncomputable def gE (a:Addr) (H:Hp):Hp:=match H a with
 |some (.frz _ (.dK kvs))=>yC H a (.dK kvs)
 |_=>H
theorem kU {a:Addr} {H:Hp} {o:Obj} {kvs:List (Key×V)} (h:H a=some (.frz o (.dK kvs))):gE a H=yC H a (.dK kvs):=by unfold gE;rw[h]
set_option tactic.hygienic true in
theorem wC.thawed {X:Cx} {pins:List (Addr×Obj)} {σ:List (Option V)} {H:Hp} {s:Shared} {a:Addr} (I:wC X pins σ H s) (h0:∀o u,X.H₀ a≠some (.frz o u)):wC X pins σ (gE a H) s:=by
 unfold gE
 split
 ·rename_i h;exact I.thaw h h0
 ·exact I
noncomputable def BJ (a:Addr) (D:BE):BE:={D with nx:=λσ H=>D.nx σ (gE a H),bk:=λσ H=>D.bk σ (gE a H),ct:=λσ H=>D.ct σ (gE a H),rt:=λv H=>D.rt v (gE a H)}
noncomputable def CJ (X:Cx) (t:TS):TS:=λD σ H=>∃a,(∀o u,X.H₀ a≠some (.frz o u))/\t (BJ a D) σ H
theorem m7 {X:Cx} {st:Stmt} {t:TS} (h:PS X st t):PS X st (CJ X t):=by
 intro pins s σ H D I hh;obtain⟨a,h0,hh⟩:=hh;refine rB (h pins s σ H (BJ a D) I hh) (λf s' q=>?_) λο ο e=>e;unfold SP at q ⊢;cases f with
 |next=>obtain⟨σ',H',I',q⟩:=q;exact⟨σ',_,I'.thawed h0,q⟩
 |brk=>obtain⟨σ',H',I',q⟩:=q;exact⟨σ',_,I'.thawed h0,q⟩
 |cont=>obtain⟨σ',H',I',q⟩:=q;exact⟨σ',_,I'.thawed h0,q⟩
 |ret u=>obtain⟨v,σ',H',I',r,q⟩:=q;exact⟨v,σ',_,I'.thawed h0,r,q⟩
theorem lU {X:Cx} {pins:List (Addr×Obj)} {σ:List (Option V)} {H:Hp} {s:Shared} {a:Addr} {o:Obj} {kvs:List (Key×V)} {ep:Nat} {es} (I:wC X pins σ H s) (e:H a=some (.frz o (.dK kvs))) (he:o.data=.dict es ep):
  ∃vs,KV kvs vs/\s.heap.DictAt (kD X.prog X.w) a vs ep/\(a == sysModules)=false:=by
 obtain⟨ho,z,hd,vs,rel,o',es',ep',ho',c,d,r⟩:=I.hok a _ e;rw[ho] at ho';cases ho';rw[he] at d;cases d;exact⟨vs,rel,⟨o,es,ho,c,he,r⟩,hd⟩
end L2
namespace L2
open PySem PySem.Spec PyProof.Rows
noncomputable def nO (K:PySem.W.Frag) (n:Nat):R2:=λx y H Q=>(x=.non/\y=.non/\Q (.bl true) H)\/(x=.non/\(∃a xs,y=.ref a/\OC K H a xs)/\Q (.bl false) H)\/((∃a xs,x=.ref a/\OC K H a xs)/\y=.non/\Q (.bl false) H)\/iO K n x y H Q
theorem eL {X:Cx} {n:Nat} (hu:X.A.units+n+2 < cLine):gF X (compareOp .Eq) (nO X.K n):=by
 intro pins s σ H x y u v Q I rx ry h;rcases h with ⟨rfl,rfl,q⟩|⟨rfl,⟨a,xs,rfl,hy⟩,q⟩|⟨⟨a,xs,rfl,hx⟩,rfl,q⟩|h
 ·cases rx;cases ry;exact SeqAt.RcAt.none_none X.prog X.w X.xe _ ⟨.bl true,H,I,rfl,q⟩
 ·cases rx;cases ry;obtain⟨its,r,p,hz⟩:=I.tuple hy;exact SeqAt.RcAt.none_tuple (A:=X.A) (s:=s) (show s.heap.IsTuple a its.toArray from p) ⋯ X.prog X.w X.xe _ ⟨.bl false,H,I,rfl,q⟩
 ·cases rx;cases ry;obtain⟨its,r,p,hz⟩:=I.tuple hx;exact SeqAt.RcAt.tuple_none (A:=X.A) (s:=s) (show s.heap.IsTuple a its.toArray from p) ⋯ X.prog X.w X.xe _ ⟨.bl false,H,I,rfl,q⟩
 ·exact ZK hu pins s σ H x y u v Q I rx ry h
end L2
namespace L2
open PySem PySem.Spec PyProof.Rows
end L2
namespace L2
open PySem PySem.Spec PyProof.Rows
end L2
namespace L2
open PySem PySem.Spec PyProof.Rows
theorem xI {X:Cx} {K:PySem.W.Frag} (h:X.K=K):tI X (OI K):=h ▸ UC
end L2
namespace L2
open PySem PySem.Spec PyProof.Rows
structure pH (K:PySem.W.Frag) (x qual:Str) (st:Stmt) (f:Addr) (fd:FuncData):Prop where
 ex:∃(oc:Value) (od:Option Addr) (dV kV doc pm:Value) (an:Option Addr) (cdv ct:Value) (osl:Array (Option Value)),
  fd=PySem.W.fnOf x qual (BC st) (zC st) (mC st) dV kV doc pm an cdv ct/\K.lookup f=some ⟨oc,od,.func fd,osl⟩/\PySem.W.codeIn K cdv qual=true
 kp:PySem.W.keepIn K (.ref f)=true
section
variable {P:Program} {w:World} {K:PySem.W.Frag} {mg:Str->Option Value} {base:Heap}
theorem oO {x qual:Str} {st:Stmt} {f:Addr} {oc:Value} {od an:Option Addr} {osl:Array (Option Value)} {dV kV doc pm cdv ct:Value} (l:K.lookup f=some ⟨oc,od,.func (PySem.W.fnOf x qual (BC st) (zC st) (mC st) dV kV doc pm an cdv ct),osl⟩)
 (c:PySem.W.codeIn K cdv qual=true) (k:PySem.W.keepIn K (.ref f)=true):pH K x qual st f (PySem.W.fnOf x qual (BC st) (zC st) (mC st) dV kV doc pm an cdv ct):=⟨⟨oc,od,dV,kV,doc,pm,an,cdv,ct,osl,rfl,l,c⟩,k⟩
theorem pH.okE {x qual:Str} {st:Stmt} {f:Addr} {fd:FuncData} {N ps:List Str} {k:Nat} {sp:Sp} (F:pH K x qual st f fd) (S:qC N ps (mC st)) (len:∀vs H Q E,sp vs H Q E->vs.length=ps.length)
  (hbody:EF P w K mg base qual st N k sp):QE P w K mg base (kG P w) (k+1) f fd ps sp:=by
 obtain⟨oc,od,dV,kV,doc,pm,an,cdv,ct,osl,rfl,lk,hcd⟩:=F.ex;exact IT lk hcd S len λA outer s H vs Q E hr hsp=>hbody f cdv A outer s H vs Q E hr hsp
noncomputable def JF (K:PySem.W.Frag) (C:Addr) (m qual:Str) (st:Stmt) (ps:List Str) (dvs:List V):Prop:=∃f fd ds,JG K C m f/\pH K m qual st f fd/\bE K fd ps ds/\GC dvs ds
noncomputable def DJ (K:PySem.W.Frag) (mg:Str->Option Value) (x:Str) (C:Addr) (qual:Str) (st:Stmt) (ps:List Str) (dvs:List V):Prop:=∃f fd ds,mg x=some (.ref C)/\Mk K C f/\pH K "__init__" qual st f fd/\bE K fd ps ds/\GC dvs ds
theorem JF.have {C:Addr} {m qual:Str} {st:Stmt} {N ps:List Str} {dvs:List V} {k:Nat} {sp:Sp} (R:JF K C m qual st ps dvs) (S:qC N ps (mC st)) (len:∀vs H Q E,sp vs H Q E->vs.length=ps.length)
  (hbody:EF P w K mg base qual st N k sp):TC P w K mg base C m (k+1) ps dvs sp:=
 let ⟨f,fd,ds,hm,F,hb,hd⟩:=R
 ⟨f,fd,ds,hm,hb,hd,F.okE S len hbody⟩
theorem DJ.have {C:Addr} {x qual:Str} {st:Stmt} {N ps:List Str} {dvs:List V} {k:Nat} {sp:Sp} (R:DJ K mg x C qual st ps dvs) (S:qC N ps (mC st)) (len:∀vs H Q E,sp vs H Q E->vs.length=ps.length)
  (hbody:EF P w K mg base qual st N k sp):DF P w K mg base x C (k+1) ps dvs sp:=
 let ⟨f,fd,ds,hm,M,F,hb,hd⟩:=R
 ⟨f,fd,ds,hm,M,hb,hd,F.okE S len hbody⟩
end
end L2
namespace L2
open PySem PySem.Spec PyProof.Rows
theorem pO {K:PySem.W.Frag} {fd:FuncData} {ps:List Str} {ds:List Value} (n:Nat) (hn:ps.length=n+ds.length) (h:∀(s:Shared) (us:List Value),K.In s.heap->us.length=n->BindsTo s fd ⟨us,[]⟩ (ps.zip (us++ds))):bE K fd ps ds:=
 λs us X hl=>h s us X (by rw[qA,hn] at hl;omega)
end L2
namespace L2
open PySem PySem.Spec PyProof.Rows
end L2
namespace L2
open PySem PySem.Spec PyProof.Rows
noncomputable def qO (K:PySem.W.Frag):R2:=λx y H Q=>LK K x y H Q\/OI K x y H Q
theorem t7 {X:Cx}:tI X (qO X.K):=uI.or UC
section
variable {X:Cx}
end
theorem GC.at {xs:List V} {us:List Value} (r:GC xs us) (m:Nat) (h1:m < xs.length) (h2:m < us.length):FC xs[m] us[m]:=by
 obtain⟨u,hu,ru⟩:=r.get (zA h1);rw[zA h2] at hu;cases hu;exact ru
end L2
namespace L2
open PySem PySem.Spec PyProof.Rows
end L2
namespace L2
open PySem PySem.Spec PyProof.Rows
section
variable {prog:Program} {w:World} {K:Type} [DecidableEq K] {knd:HeapKind prog w K} {A:Around} {E:Value->Shared->Prop} {s:Shared}
end
end L2
namespace L2
open PySem PySem.Spec PyProof.Rows
noncomputable def WI (h:Heap) (d:Addr) (es:Array DictEntry) (ep:Nat):Prop:=∃o,h.get? d=some o/\o.ExactDict/\o.data=.dict es ep
theorem WI.ty {s:Shared} {d:Addr} {es:Array DictEntry} {ep:Nat} (r:WI s.heap d es ep):s.TypeIs (.ref d) "dict":=let ⟨o,ho,hc,_⟩:=r;⟨o,ho,hc.1⟩
theorem WI.lt {h:Heap} {d:Addr} {es:Array DictEntry} {ep:Nat} (r:WI h d es ep):d < h.objs.size:=let ⟨_,ho,_⟩:=r;GA ho
section
variable {prog:Program} {w:World} {A:Around} {E:Value->Shared->Prop} {s:Shared} {d it:Addr} {es:Array DictEntry} {ep i:Nat}
end
end L2
namespace L2
open PySem PySem.Spec PyProof.Rows
section
variable {X:Cx}
end
end L2
namespace L2
open PySem PySem.Spec PyProof.Rows
noncomputable def bF (v d:Addr):HO:=.ext λh=>h.IsValuesView v d
noncomputable def EJ (td:TE):TE:=λσ H Q=>td σ H λx H1=>∃a kvs,x=.ref a/\H1 a=some (.dK kvs)/\∀v,H1 v=none->Q (.ref v) (yC H1 v (bF v a))
theorem mU {X:Cx} {o:Expr} {td:TE} {apos cpos:Pos} (ho:PE X o td) (hbase:attributeBase o "values" X.env (eval o X.env)=eval o X.env:=by rfl) (hline:(apos.endLine == cpos.line)=true:=by rfl):PE X (.Call (.Attribute o "values" apos) [] [] cpos) (EJ td):=by
 intro pins s σ H Q I h;refine wpAny_Call_method0_late hbase hline (pD (ho pins s σ H _ I h) λu s1 zz=>?_);obtain⟨x,H1,I1,rx,a,kvs,ex,hd,q⟩:=zz;subst ex;obtain rfl:u=Value.ref a:=rx;obtain⟨t1,t2,_⟩:=t5 I1 (.inl ⟨kvs,.inl hd⟩);obtain⟨_,nd,vs,_,dd⟩:=vI I1.hok (.inl hd);refine⟨"dict","dict.values",PySem.F.plainAttrs_dict,PySem.F.slot_dict_values,PySem.F.type_dict_values,t1,t2,Calls.callWith_builtin rfl (PySem.evalArgs_none ?_)⟩;refine call_meetsIn PySem.F.slot_dict_values dd.typeIs PySem.F.entry_dict_values (PySem.F.args_dict_values_1 _) (meets_dict_values (kD X.prog X.w) a nd) ⟨⟨vs,dd⟩,?_⟩;refine⟨.ref s1.heap.objs.size,_,I1.laid (t':=s1.toks) (λb u e=>CA _ e) (iA _) (o:=bF s1.heap.objs.size a) ⟨⟨_,XA _ rfl,rfl,rfl⟩,⟨_,XA _ rfl⟩,λh1 h2 ⟨o,e,c,d⟩ k=>⟨o,k o e,c,d⟩⟩,rfl,q _ (I1.hok.fresh (iA _))⟩
noncomputable def OR (a:Addr) (o:Obj) (kvs:List (Key×V)):It:=
 ⟨λi H=>H a=some (.frz o (.dK kvs))/\i < kvs.length,λi H x H'=>H'=H/\∃k,kvs[i]?=some (k,x),λi H=>H a=some (.frz o (.dK kvs))/\kvs.length<=i⟩
theorem li {P:Program} {w:World} {K:PySem.W.Frag} {tg:Expr} (a it:Addr) (o:Obj) (kvs:List (Key×V)) (ep:Nat) {es} (he:o.data=.dict es ep):dH P w K tg (OR a o kvs) [it] it (λi h=>h.IsValIter it a i kvs.length ep) where
 mem:=by simp
 obj:=λi h st b hb=>by
  have e:b=it:=by simpa using hb
  subst e;obtain⟨o,e,c,d⟩:=st;exact⟨o,e,λv z=>by rw[d] at z;cases z⟩
 keep:=λi h h' st k=>st.at λo e=>k it (by simp) o e
 item:=by
  intro X hP hw hK hc i pins s σ H E I hf st hg;subst hP hw hK;obtain⟨hg,hi⟩:=hg;obtain⟨vs,rel,dat,_⟩:=lU I hg he;obtain⟨f0,f1,f2,f3,f4,f5⟩:=hf it (by simp);have hl:=rel.length;have gS:i < vs.length:=by rw[<-hl];exact hi
  obtain⟨⟨k,x⟩,hx⟩:∃p,vs[i]?=some p:=⟨_,zA gS⟩
  obtain⟨v,hv,rv⟩:=yJ rel i k x hx;rw[hl] at st;refine wpAny_pyNext_values_item st dat hx λh' st' sb=>?_;have I1:wC X pins σ H {s with heap:=h'}:=I.turned (t':=s.toks) (λb o hb e=>(sb.2 b hb).trans e) f0 f1 f3 f4 f5;obtain⟨ob,e,c,d⟩:=id st';rw[<-hl] at st';exact⟨x,rfl,DT (s:={s with heap:=h'}) e c d (by decide) ⟨v,H,I1,rv,⟨rfl,k,hv⟩,st',λb hb=>(hf b hb).1⟩⟩
 done:=by
  intro X hP hw hK hc i pins s σ H E I hf st hg;subst hP hw hK;obtain⟨hg,hi⟩:=hg;obtain⟨vs,rel,dat,_⟩:=lU I hg he;obtain⟨f0,f1,f2,f3,f4,f5⟩:=hf it (by simp);have hl:=rel.length;rw[hl] at st;exact wpAny_pyNext_values_end (I.ok.hd hc) st dat (List.getElem?_eq_none_iff.mpr (by rw[<-hl];exact hi)) λh' eb=>⟨rfl,I.turned (t':=s.toks) (λb o hb e=>eb b o hb e) f0 f1 f3 f4 f5⟩
 self:=λο ο ο ο ο st h=>wpAny_pyIter_valiter st h
noncomputable def FJ (tl:TE):TI:=λσ H R=>tl σ H λx H1=>∃v a kvs,x=.ref v/\H1 v=some (bF v a)/\H1 a=some (.dK kvs)/\∀o,R (OR a o kvs) (yC H1 a (.frz o (.dK kvs)))
theorem nU {X:Cx} {tg l:Expr} {tl:TE} (hl:PE X l tl):PI X tg l (FJ tl):=by
 intro pins s σ H R I h;refine pD (hl pins s σ H _ I h) λv s1 zz=>?_;obtain⟨x,H1,I1,r1,q1⟩:=zz;obtain⟨vw,a,kvs,e,hv,hq,q⟩:=q1;subst e;cases r1;obtain⟨o,ho,I2⟩:=I1.freeze hq;obtain⟨_,_,vs,rel,o',es,ep,ho',c,d,r⟩:=I1.hok a _ hq;rw[ho] at ho';cases ho';obtain⟨vs,rel,dat,hd⟩:=lU I2 SC d;have hvw:s1.heap.IsValuesView vw a:=(I1.hok vw _ hv).1;refine wpAny_pyIter_values hvw dat ?_;have hlen:kvs.length=vs.length:=rel.length;have hfr:yC H1 a (.frz o (.dK kvs)) s1.heap.objs.size=none:=I2.hok.fresh (iA _);refine⟨s1.heap.objs.size,[s1.heap.objs.size],_,_,yC H1 a (.frz o (.dK kvs)),rfl,I2.kept (t':=s1.toks) λb o e=>CA _ e,li a _ o kvs ep d,⟨_,XA _ rfl,rfl,by rw[hlen];rfl⟩,λb hb=>?_,q o⟩;have e:b=s1.heap.objs.size:=by simpa using hb
 subst e;exact I2.fpOk (iA _) hfr
theorem mi {a:Addr} {o:Obj} {kvs:List (Key×V)} {g:TG} {tt:TT} {te:TE} {h:oH g tt te} {σ0:St} {D:Addr} {Q:Hp->Prop} {H:Hp} (Pv:Nat->List V->St->Hp->Prop) (h0:Pv 0 [] σ0 (yC H D (.lst []))) (hl:∀i ys σ H,i<=kvs.length->Pv i ys σ H->H a=some (.frz o (.dK kvs)))
  (hs:∀i k x ys σ H,kvs[i]?=some (k,x)->Pv i ys σ H->g x σ H λσ2 H2=>tt σ2 H2 λb H2'=>if b=true then te σ2 H2' λv H3=>H3 D=some (.lst ys)/\ys.length < sizeLine/\Pv (i+1) (ys++[v]) σ2 (yC H3 D (.lst (ys++[v]))) else Pv (i+1) ys σ2 H2') (hd:∀ys σ H,Pv kvs.length ys σ H->Q H):
  TH g tt te h (OR a o kvs) σ0 D Q H:=by
 refine⟨λi m ys σ H=>i+m=kvs.length/\Pv i ys σ H,⟨kvs.length,NB _,h0⟩,λi m ys σ H ⟨e,p⟩=>?_⟩;have hq:=hl i ys σ H ⋯ p;by_cases hi:i < kvs.length
 ·refine .inr ⟨⟨hq,hi⟩,Pv (i+1),λys σ H q=>⟨m - 1,⋯,⋯,q⟩,?_⟩;rintro y H' ⟨rfl,k,hy⟩;exact hs i k y ys σ _ hy p
 ·have e':i=kvs.length:=⋯;subst e';exact .inl ⟨⟨hq,iA _⟩,hd ys σ H p⟩
end L2
namespace L2
open PySem PySem.Spec PyProof.Rows
end L2
namespace L2
open PySem PySem.Spec PyProof.Rows
section
variable {prog:Program} {w:World} {A:Around} {E:Value->Shared->Prop} {s:Shared}
end
end L2
namespace L2
open PySem PySem.Spec PyProof.Rows
noncomputable def ZG (i:Nat):TE:=λσ H Q=>match σ[i]? with
 |some (some v)=>Q v H
 |_=>False
set_option tactic.hygienic true in
theorem ni {i:Nat} {σ:St} {H:Hp} {Q:VK} (h:ZG i σ H Q):yK i σ H Q:=by
 unfold ZG at h
 split at h
 ·rename_i v e;exact⟨v,e,h⟩
 ·exact h.elim
theorem nC {X:Cx} (i:Nat) {x:Str} {pos:Pos} (hN:X.N[i]?=some x:=by rfl) (hv:xT X.env.scope x:=by first|exact Or.inl rfl|exact Or.inr (Or.inl rfl)|exact Or.inr (Or.inr rfl)) (hd:(x == ("__debug__":Str))=false:=by decide)
 (hcd:(x == ("__classdict__":Str))=false:=by decide):PE X (.Name x pos) (ZG i):=λpins s σ H Q I h=>zK hN hv hd hcd pins s σ H Q I (ni h)
theorem fL {g:Int->Int->V} {i j:Int} {H:Hp} {Q:VK}:qI g (.int i) (.int j) H Q=Q (g i j) H:=propext ⟨λ⟨_,_,e1,e2,h⟩=>by cases e1;cases e2;exact h,λh=>⟨_,_,rfl,rfl,h⟩⟩
theorem rO {C:Int->Int->Prop} {g:Int->Int->V} {i j:Int} {H:Hp} {Q:VK}:rI C g (.int i) (.int j) H Q=(C i j/\Q (g i j) H):=propext ⟨λ⟨_,_,e1,e2,h⟩=>by cases e1;cases e2;exact h,λh=>⟨_,_,rfl,rfl,h⟩⟩
theorem iL {c:Int} {P:Int->Prop}:(∃i,V.int c=V.int i/\P i)=P c:=propext ⟨λ⟨_,e,h⟩=>by cases e;exact h,λh=>⟨_,rfl,h⟩⟩
theorem sO {c:Bool} {P:Bool->Prop}:(∃i,V.bl c=V.bl i/\P i)=P c:=propext ⟨λ⟨_,e,h⟩=>by cases e;exact h,λh=>⟨_,rfl,h⟩⟩
theorem jL {c:Addr} {P:Addr->Prop}:(∃i,V.ref c=V.ref i/\P i)=P c:=propext ⟨λ⟨_,e,h⟩=>by cases e;exact h,λh=>⟨_,rfl,h⟩⟩
end L2
namespace L2
open PySem PySem.Spec PyProof.Rows
section
open PySem.Builtin PySem.Builtin.Str
end
end L2
namespace Hd
open PySem PySem.W PySem.Calls PyProof.Rows
noncomputable def lG (tb:String->Option Builtin) (p:Program) (w:World) (n0:Nat) (ann:Option Value):Nat->SharedT->Thread->Option SharedT
 |0,_,_=>none
 |n+1,s,t=>match through t with
  |true=>some s
  |false=>match stepOk n0 ann t with
   |false=>none
   |true=>match stepT (denote tb) p w s t with
    |some (s',t')=>lG tb p w n0 ann n s' t'
    |none=>none
theorem u7 {tb:String->Option Builtin} {p:Program} {w:World} {n0:Nat} {ann:Option Value}:∀{n:Nat} {s r:SharedT} {t:Thread},lG tb p w n0 ann n s t=some r->topRun tb p w n0 ann n s.abs t=some r.abs
 |0,_,_,_,h=>by cases h
 |n+1,s,r,t,h=>by
  unfold lG at h;unfold topRun;cases he:through t with
  |true=>rw[he] at h;cases h;rfl
  |false=>
   rw[he] at h;cases hk:stepOk n0 ann t with
   |false=>rw[hk] at h;cases h
   |true=>
    rw[hk] at h;cases hs:stepT (denote tb) p w s t with
    |none=>rw[hs] at h;cases h
    |some x=>obtain⟨s2,t2⟩:=x;rw[hs] at h;rw[stepT_spec hs];exact u7 h
noncomputable def uO:List Obj->Nat->BT->BT
 |[],_,t=>t
 |o::l,n,t=>uO l (n+1) (t.ins n o)
noncomputable def vO (P:Params):BT:=uO (boot_heap P).objs.toList 0 .nil
noncomputable def aG (w:World) (os:OsState):SharedT:=⟨vO w.params,(boot_heap w.params).objs.size,(boot_heap w.params).life, #[],boot_drawn,boot_toks,os⟩
theorem oi (w:World) (os:OsState):(aG w os).abs=⟨boot_heap w.params, #[],boot_drawn,boot_toks,os⟩:=by kernel_rfl
theorem pi (w:World):((boot_heap w.params).isNs mainGlobals&&(#[]:Array GenState).size == 0)=true:=by kernel_rfl
noncomputable abbrev cF (w:World):Option Value:=(boot_heap w.params).nsMap mainGlobals "__annotations__"
noncomputable def look {α:Type} (p:Program) (Yf:Shared->α) (H0:Heap) (s:Shared):Bool×α:=
 (staticsOk (importedModules p.main.body) H0 s.heap&&namesBound p s.heap&&gensDone s&&laidKept H0 s.heap,Yf s)
noncomputable def S7 (p:Program) (N:Nat) (w:World) (os:OsState):Option SharedT:=lG treeTable p w (boot_heap w.params).objs.size (cF w) N (aG w os) (topStub p)
noncomputable def oU {α:Type} (p:Program) (Yf:Shared->α) (N:Nat) (w:World) (os:OsState):=(S7 p N w os).map λs=>look p Yf (boot_heap w.params) s.abs
noncomputable def pU (p q:Program) (loose:List Str) (Xt:Shared->Bool) (N:Nat) (w:World) (os:OsState):=(S7 p N w os).map λs=>openSeen q loose (importedModules p.main.body) Xt true s.abs
end Hd
namespace Hd
open PySem PySem.W
noncomputable def V7:Nat->Nat->List Nat
 |0,_=>[]
 |k+1,n=>match Nat.beq n 0 with
  |true=>[]
  |false=>Nat.sub (n % 256) 1::V7 k (n / 256)
noncomputable def S (n:Nat):Str:=⟨⟨V7 200 n⟩⟩
noncomputable def qi (P:Params) (x:Str) (t:Nat) (v:Value):DictEntry:=⟨PyData.keyHash P x,.str x t,v⟩
noncomputable def dO (n:Nat) (l:List DictEntry):Obj:=⟨.type "dict",none,.dict ⟨l⟩ n, #[]⟩
noncomputable def tO (l:List Value):Obj:=⟨.type "tuple",none,.seq ⟨l⟩ 0, #[]⟩
noncomputable def cO (l:List Value):Obj:=⟨.type "code",none,.fields ⟨l⟩, #[]⟩
end Hd
namespace Hd
open PySem PySem.W PySem.Calls PyProof.Rows
noncomputable def SM (tb:String->Option Builtin) (p:Program) (w:World) (n0:Nat) (ann:Option Value):Nat->SharedT->Thread->Option (SharedT×Thread)
 |0,s,t=>some (s,t)
 |n+1,s,t=>match through t with
  |true=>none
  |false=>match stepOk n0 ann t with
   |false=>none
   |true=>match stepT (denote tb) p w s t with
    |some (s',t')=>SM tb p w n0 ann n s' t'
    |none=>none
theorem X7 {tb:String->Option Builtin} {p:Program} {w:World} {n0:Nat} {ann:Option Value}:∀{n:Nat} {s s':SharedT} {t t':Thread},SM tb p w n0 ann n s t=some (s',t')->topGo tb p w n0 ann n s.abs t=some (s'.abs,t')
 |0,_,_,_,_,h=>by cases h;rfl
 |n+1,s,s',t,t',h=>by
  unfold SM at h;unfold topGo;cases he:through t with
  |true=>rw[he] at h;cases h
  |false=>
   rw[he] at h;cases hk:stepOk n0 ann t with
   |false=>rw[hk] at h;cases h
   |true=>
    rw[hk] at h;cases hs:stepT (denote tb) p w s t with
    |none=>rw[hs] at h;cases h
    |some x=>obtain⟨s2,t2⟩:=x;rw[hs] at h;rw[stepT_spec hs];exact X7 h
theorem kL {tb:String->Option Builtin} {p:Program} {w:World} {n0:Nat} {ann:Option Value} {env:Env} {q:Pos} {n N i:Nat} {s s':SharedT} {r:Shared} {l:List Stmt} {c:Code} {pos p':Pos} (h:segRunT tb p w n0 ann 1 n s (piecesOf (l.take i) env c pos [topFrame q])=some (.next,s',c,p'))
  (k:topRun tb p w n0 ann N s'.abs (restOf (l.drop i) env c p' [topFrame q])=some r):topRun tb p w n0 ann (n+N) s.abs (restOf l env c pos [topFrame q])=some r:=by
 have:=piece_app (segRun_of h) k;rwa[QB] at this
theorem ri {p q:Program} {loose:List Str} {Xt:Shared->Bool} {α:Type} {Yf:Shared->α} {Ya:World->α} {N Nl:Nat} {S:World->OsState->SharedT} {t:Thread}
  (e:opening p=plainProg p.main.scope.names) (hN:Nat.ble 600 N=true) (f:∀s,fenceModules? p s=some s)
  (yO:∀(w:World) (os:OsState) (r:Shared),topRun treeTable p w (boot_heap w.params).objs.size (cF w) Nl (S w os).abs t=some r->topRun treeTable p w (boot_heap w.params).objs.size (cF w) N (aG w os).abs (topStub p)=some r)
  (one:∀(w:World) (os:OsState),(lG treeTable p w (boot_heap w.params).objs.size (cF w) Nl (S w os) t).map (λs=>look p Yf (boot_heap w.params) s.abs)=some (true,Ya w))
  (two:∀(w:World) (os:OsState),(lG treeTable p w (boot_heap w.params).objs.size (cF w) Nl (S w os) t).map (λs=>openSeen q loose (importedModules p.main.body) Xt true s.abs)=some (openGood q loose)):LeftO p q loose Xt Yf Ya N:=λw=>by
 obtain⟨⟨h,gs,d,k,os⟩,e1,e2⟩:=HA.mp (boot_open e hN f w);obtain⟨rfl,rfl,rfl,rfl⟩:h=boot_heap w.params/\gs= #[]/\d=boot_drawn/\k=boot_toks:=by simpa using e2
 obtain⟨sT,r,l⟩:=HA.mp (one w os);obtain⟨sT',r',l2⟩:=HA.mp (two w os);obtain rfl:sT=sT':=FA (r.symm.trans r');have r:=yO w os _ (u7 r);rw[oi] at r;obtain⟨l1,l3⟩:_/\_:=by simpa only[look,Prod.mk.injEq] using l
 have t:topFrom treeTable p w N ⟨boot_heap w.params, #[],boot_drawn,boot_toks,os⟩=some sT.abs:=by
  unfold topFrom;dsimp only;rw[pi w,r];show (match staticsOk (importedModules p.main.body) (boot_heap w.params) sT.abs.heap&&namesBound p sT.abs.heap&&gensDone sT.abs&&laidKept (boot_heap w.params) sT.abs.heap with|true=>_|false=>_)=_;rw[l1]
 unfold openEnds;rw[e1];show (topFrom treeTable p w N _).map _=_;rw[t];exact congrArg some (Prod.ext l2 l3)
end Hd
namespace Hd
open PySem PySem.W PySem.Calls PyProof.Rows
theorem tw_run:(λ(_:(String->Option Builtin)->Program->World->Nat->Option Value->Nat->SharedT->Thread->Option SharedT)=>true) lG=true:=by k_qdec
theorem tw_go:(λ(_:(String->Option Builtin)->Program->World->Nat->Option Value->Nat->SharedT->Thread->Option (SharedT×Thread))=>true) SM=true:=by k_qdec
theorem tw_boot:(λ(_:World->OsState->SharedT) (_:World->Option Value)=>true) aG cF=true:=by k_qdec
theorem tw_look:(λ(_:{α:Type}->Program->(Shared->α)->Heap->Shared->Bool×α)=>true) @look=true:=by k_qdec
theorem tw_once:(λ(_:{α:Type}->Program->(Shared->α)->Nat->World->OsState->Option (Bool×α))=>true) @oU=true:=by k_qdec
theorem tw_seen:(λ(_:Program->Program->List Str->(Shared->Bool)->Nat->World->OsState->Option _)=>true) pU=true:=by k_qdec
end Hd
namespace L2
open PySem PySem.Spec PyProof.Rows
structure mE (k:Nat) (A:Around):Prop where
 dp:A.depth+3 * k+5 < recursionLimit
 un:A.units+16 * k+200 < cLine
theorem PD.h {k:Nat} {A:Around} (r:PD k A):mE k A:=⟨r.dp,r.un⟩
theorem mE.mono {j k:Nat} {A:Around} (r:mE k A) (h:j<=k):mE j A:=⟨by have:=r.dp;omega,by have:=r.un;omega⟩
theorem mE.mark {k:Nat} {A:Around} (r:mE k A) {v:Option Value}:mE k (A.mark v):=⟨r.dp,r.un⟩
theorem mE.deeper {k:Nat} {A:Around} (r:mE (k+1) A) (env:Env):mE k (A.deeper env):=
 ⟨by have:=r.dp;show A.depth+1+3 * k+5 < _;omega,by have:=r.un;show A.units+3+16 * k+200 < _;omega⟩
structure GJ (P:Program) (w:World) (K:PySem.W.Frag) (mg:Str->Option Value) (base:Heap) (k:Nat) (f:Addr) (fd:FuncData) (ps:List Str) (sp:Sp):Prop where
 len:∀vs H Q E,sp vs H Q E->vs.length=ps.length
 run:∀(A:Around) (outer:List Env) (s:Shared) (H:Hp) (args:Args) (us:List Value) (vs:List V) (Q:VK) (E:XK),mE k A->fG P w K mg base A outer s H->BindsTo s fd args (ps.zip us)->GC vs us->sp vs H Q E->
  codeAny (model P w) A (.call (.ref f) args) (CR (kG P w) outer P w H s Q E) s
noncomputable def uG (P:Program) (w:World) (K:PySem.W.Frag) (mg:Str->Option Value) (base:Heap) (N:List Str) (qual:Str) (scope:Scope) (f:Addr) (cd:Value) (A:Around) (outer:List Env) (s:Shared) (H:Hp) (E:XK):Cx:=
 {iE (kG P w) P w K mg base N qual scope f cd A outer s H E with calm:=false}
theorem si {P:Program} {w:World} {K:PySem.W.Frag} {mg:Str->Option Value} {base:Heap} {N ps:List Str} {qual:Str} {scope:Scope} {f:Addr} {cd:Value} {A:Around} {outer:List Env} {s s1:Shared} {H:Hp} {E:XK} {us:List Value} {vs:List V}
  (S:qC N ps scope) (e0:fG P w K mg base A outer s H) (hl:vs.length=ps.length) (r:GC vs us)
  (x:InCallC s s.heap.objs.size (bindL (envOfC qual scope s.heap.objs.size f cd).kindOf (ps.zip us) λο=>none) (cellsFrom (s.heap.objs.size+1) scope.names []) (bindC (envOfC qual scope s.heap.objs.size f cd).kindOf (ps.zip us) λο=>none) s1):
  wC (uG P w K mg base N qual scope f cd A outer s H E) [] (fE N vs) H s1:=by
 have I:=S4 (CX:=kG P w) (E:=E) (A:={A with handled:=none}) S rfl ⟨e0.frames,e0.mod,e0.bs,e0.bsz,e0.funs,e0.frf,e0.hok,e0.bare⟩ hl r x;exact⟨⟨I.ok.mod,I.ok.kind,I.ok.glob,I.ok.blt,I.ok.above,I.ok.inj,I.ok.has,I.ok.cab,λz=>Bool.noConfusion z,Around.frames_deeper e0.frames,I.ok.stk,I.ok.exf,I.ok.bs,I.ok.bsz,I.ok.noex,I.ok.exfs,I.ok.funs,I.ok.frf⟩,
  I.os,I.bare,I.base,I.loc,I.cell,I.free,I.freeC,I.pin,I.hok,I.len⟩
noncomputable def HJ (P:Program) (w:World) (K:PySem.W.Frag) (mg:Str->Option Value) (base:Heap) (qual:Str) (st:Stmt) (N:List Str) (k:Nat) (sp:Sp):Prop:=
 ∀(f:Addr) (cdv:Value) (A:Around) (outer:List Env) (s:Shared) (H:Hp) (vs:List V) (Q:VK) (E:XK),mE k (A.deeper (envOfC qual (mC st) s.heap.objs.size f cdv))->sp vs H Q E->
  ∃t,TF (uG P w K mg base N qual (mC st) f cdv A outer s H E) (zC st) t/\t {nx:=λο H'=>Q .non H',rt:=Q} (fE N vs) H
theorem sG.okH {P:Program} {w:World} {K:PySem.W.Frag} {mg:Str->Option Value} {base:Heap} {x qual:Str} {st:Stmt} {f:Addr} {fd:FuncData} {N ps:List Str} {k:Nat} {sp:Sp} (F:sG K x qual st f fd) (S:qC N ps (mC st)) (len:∀vs H Q E,sp vs H Q E->vs.length=ps.length)
  (hbody:HJ P w K mg base qual st N k sp):GJ P w K mg base (k+1) f fd ps sp:=by
 obtain⟨oc,od,kV,doc,pm,an,cdv,ct,osl,rfl,lk,hcd⟩:=F.ex;refine⟨len,λA outer s H args us vs Q E hr e0 hb r hsp=>?_⟩;have hl:=len _ _ _ _ hsp;have KX:K.In s.heap:=e0.mod.kin.keeps λb o e=>(e0.bs b o e).1;have lim:s.heap.NoLimit:=e0.mod.nolimit.keeps λb o e=>(e0.bs b o e).1;have hkind:∀y∈ps.zip us,(mC st).names.lookup y.1=some .local\/((mC st).names.lookup y.1=some .cell/\((cellsFrom (s.heap.objs.size+1) (mC st).names []).lookup y.1).isSome=true):=λ⟨n,v⟩ hy=>by
  rcases S.par n (List.of_mem_zip hy).1 with q|q
  ·exact .inl q
  ·exact .inr ⟨q,PySem.W.cellsFrom_some _ _ _ (.inl q)⟩
 refine codeAny_call_function (by have:=hr.dp;omega) (KX _ _ lk) rfl S.co S.gen rfl (PySem.W.codeRec_of KX hcd) (hb _ _ _ _ ?_);refine wpAny_newFunctionEnv_cells S.kind hkind λenv he s1 x=>?_;subst he;refine⟨lim.keeps x.toInCall.keep,codeAny_func ?_⟩;obtain⟨t,ht,hq⟩:=hbody f cdv A outer s H vs Q E (hr.deeper _) hsp;have I:wC (uG P w K mg base N qual (mC st) f cdv A outer s H E) [] (fE N vs) H s1:=si S e0 hl r x;refine rB (ht [] s1 (fE N vs) H _ I hq) (λfl s' hs=>?_) λe s' hs=>hs;have fin:∀{σ':St} {H':Hp} {v:V} {u:Value},wC (uG P w K mg base N qual (mC st) f cdv A outer s H E) [] σ' H' s'->FC v u->Q v H'->CE outer P w H s Q u s':=
  λ{σ' H' v u} J rv q=>⟨v,H',J.os,J.bare,J.base,J.hok,rv,q⟩
 cases fl with
 |ret u=>
  obtain⟨v,σ',H',J,rv,q⟩:=hs;exact fin J rv q
 |next=>
  obtain⟨σ',H',J,q⟩:=hs;exact fin (v:=V.non) (u:=Value.none) J rfl q
 |brk=>
  obtain⟨_,_,_,q⟩:=hs;exact False.elim q
 |cont=>
  obtain⟨_,_,_,q⟩:=hs;exact False.elim q
noncomputable def WH (P:Program) (w:World) (K:PySem.W.Frag) (mg:Str->Option Value) (base:Heap) (x:Str) (k:Nat) (ps:List Str) (sp:Sp):Prop:=
 ∃f fd,mg x=some (.ref f)/\PySem.W.keepIn K (.ref f)=true/\bE K fd ps []/\GJ P w K mg base k f fd ps sp
theorem EE.haveH {P:Program} {w:World} {K:PySem.W.Frag} {mg:Str->Option Value} {base:Heap} {x qual:Str} {st:Stmt} {N ps:List Str} {k:Nat} {sp:Sp} (R:EE K mg x qual st ps []) (S:qC N ps (mC st)) (len:∀vs H Q E,sp vs H Q E->vs.length=ps.length)
  (hbody:HJ P w K mg base qual st N k sp):WH P w K mg base x (k+1) ps sp:=by
 obtain⟨f,fd,ds,hm,F,hb,hd⟩:=R;cases hd;exact⟨f,fd,hm,F.kp,hb,F.okH S len hbody⟩
theorem Y7 {X:Cx} {k:Nat} {ps:List Str} {sp:Sp} {x:Str} {p pos:Pos} {e:Expr} {es:List Expr} {t:TA} (F:WH X.prog X.w X.K X.mg X.base x k ps sp) (hr:mE k X.A) (ha:PA X (e::es) t) (hg:Gl X x:=by rfl) (hdb:(x == ("__debug__":Str))=false:=by decide)
  (he:starEach (e::es) X.env=(false,eval e X.env)::starEach es X.env:=by rfl) (hpl:(backTo pos (starEach es X.env)).any (·.1)=false:=by rfl):
  PE X (.Call (.Name x p) (e::es) [] pos) (MG (λο ο ο=>False) sp [] t):=by
 obtain⟨f,fd,hm,hk,hb,F⟩:=F;intro pins s σ H Q I h;refine gC (AK I hg hm ?_ hdb);refine PySem.W.callWith_K (h₀:=X.base) I.ok.mod.kin hk (pD (ha pos pins s σ H _ I h) λus s1 ⟨vs,H1,I1,r,q⟩=>⟨I1.kIn,?_⟩) he hpl;have r2:GC (vs++[]) (us++[]):=r.append .nil;have hl:(us++[]).length=ps.length:=by rw[<-r2.length];exact F.len _ _ _ _ q
 refine wpAny_call (codeAny_mono (F.run X.A X.stack s1 H1 ⟨us,[]⟩ (us++[]) (vs++[]) Q _ hr I1.env0 (hb s1 us I1.kIn hl) r2 q) λr s' hq=>?_);cases r with
 |error e=>
  obtain⟨ea,cls,H',B,rfl,os,bare,un,hok,fly,hK⟩:=hq;exact hK.elim
 |ok fl=>
  cases fl with
  |ret u=>exact I1.after hq
  |next=>exact False.elim hq
  |brk=>exact False.elim hq
  |cont=>exact False.elim hq
noncomputable def rCatS:R2:=λx y H Q=>∃a b,x=.str a/\y=.str b/\a.length+b.length<=16777216/\Q (.str (a++b)) H
theorem IJ {X:Cx}:gF X (binaryOp .Add) rCatS:=by
 intro pins s σ H x y v u Q I rx ry h;obtain⟨a,b,rfl,rfl,hz,q⟩:=h;obtain⟨t,rfl⟩:=rx;obtain⟨t2,rfl⟩:=ry;exact add_str (λt' tk=>⟨.str (a++b),H,I.tok _,⟨_,rfl⟩,q⟩) (by rw[sizeLine_eq];omega)
theorem ui {P:Program} {w:World} {K:PySem.W.Frag} {mg:Str->Option Value} {base:Heap} {N:List Str} {qual:Str} {scope:Scope} {f:Addr} {cd:Value} {A:Around} {outer:List Env} {s:Shared} {H:Hp} {E:XK}:(uG P w K mg base N qual scope f cd A outer s H E).K=K:=rfl
end L2
namespace L2
open PySem PySem.Spec PyProof.Rows
noncomputable def YH (K:PySem.W.Frag) (fd:FuncData) (ps ks:List Str):Prop:=∀(s:Shared) (us:List Value) (a b:Value),K.In s.heap->us.length+2=ps.length->BindsTo s fd ⟨us,ks.zip [a,b]⟩ (ps.zip (us++[b,a]))
noncomputable def JJ (K:PySem.W.Frag) (C:Addr) (m qual:Str) (st:Stmt) (ps ks:List Str):Prop:=∃f fd,JG K C m f/\pH K m qual st f fd/\YH K fd ps ks
noncomputable def lL (P:Program) (w:World) (K:PySem.W.Frag) (mg:Str->Option Value) (base:Heap) (C:Addr) (m:Str) (k:Nat) (ps ks:List Str) (sp:Sp):Prop:=
 ∃f fd,JG K C m f/\YH K fd ps ks/\QE P w K mg base (kG P w) k f fd ps sp
theorem JJ.have {P:Program} {w:World} {K:PySem.W.Frag} {mg:Str->Option Value} {base:Heap} {C:Addr} {m qual:Str} {st:Stmt} {N ps ks:List Str} {k:Nat} {sp:Sp} (R:JJ K C m qual st ps ks) (S:qC N ps (mC st)) (len:∀vs H Q E,sp vs H Q E->vs.length=ps.length)
  (hbody:EF P w K mg base qual st N k sp):lL P w K mg base C m (k+1) ps ks sp:=
 let ⟨f,fd,hm,F,hb⟩:=R
 ⟨f,fd,hm,hb,F.okE S len hbody⟩
end L2
namespace L2
open PySem PySem.Spec PyProof.Rows
end L2
namespace L2
open PySem PySem.Spec PyProof.Rows
theorem vi {X:Cx}:lE X (.type "dict") (λxs H Q=>∃p kvs,xs=[.ref p]/\Rd H p (.dK kvs)/\∀l,H l=none->Q (.ref l) (yC H l (.dK kvs))):=by
 intro pins s σ H xs us Q I r h;obtain⟨p,kvs,rfl,hp,q⟩:=h;obtain⟨u,rfl,ru⟩:=BF r;cases ru;exact gh I hp λl s' hl I'=>⟨.ref l,_,I',rfl,q l hl⟩
noncomputable def ZH (X:Cx) (t:TE):TE:=λσ H Q=>∃a,(∀o u,X.H₀ a≠some (.frz o u))/\t σ H λv H'=>Q v (gE a H')
theorem xi {X:Cx} {e:Expr} {t:TE} (h:PE X e t):PE X e (ZH X t):=by
 intro pins s σ H Q I hh;obtain⟨a,h0,hh⟩:=hh;exact rB (h pins s σ H _ I hh) (λv s' ⟨x,H',I',r,q⟩=>⟨x,_,I'.thawed h0,r,q⟩) λο ο e=>e
theorem Z7 {a:Addr} {o:Obj} {kvs:List (Key×V)} {g:TG} {tb:TS} {h:nH g tb} {D:BE} {σ:St} {H:Hp} (Pv:Nat->St->Hp->Prop) (h0:Pv 0 σ H) (hl:∀i σ H,i<=kvs.length->Pv i σ H->H a=some (.frz o (.dK kvs)))
  (hs:∀i k v σ H,kvs[i]?=some (k,v)->Pv i σ H->g v σ H λσ2 H2=>tb {D with nx:=Pv (i+1),ct:=Pv (i+1),bk:=D.nx} σ2 H2) (hd:∀σ H,Pv kvs.length σ H->D.nx σ H):UI g tb h (OR a o kvs) D σ H:=by
 refine⟨λi m σ H=>i+m=kvs.length/\Pv i σ H,⟨kvs.length,NB _,h0⟩,λi m σ H ⟨e,p⟩=>?_⟩;have hq:=hl i σ H ⋯ p;by_cases hi:i < kvs.length
 ·refine .inr ⟨⟨hq,hi⟩,Pv (i+1),λσ H q=>⟨m - 1,⋯,⋯,q⟩,?_⟩;rintro y H' ⟨rfl,k,hk⟩;exact hs i k y σ _ hk p
 ·have e':i=kvs.length:=⋯;subst e';exact .inl ⟨⟨hq,iA _⟩,hd σ H p⟩
end L2
namespace L2
open PySem PySem.Spec PyProof.Rows
section
variable {prog:Program} {w:World} {A:Around} {E:Value->Shared->Prop} {s:Shared}
end
section
variable {X:Cx}
end
end L2
namespace L2
open PySem PySem.Spec PyProof.Rows
section
variable {prog:Program} {w:World} {A:Around} {E:Value->Shared->Prop} {s:Shared}
end
section
variable {X:Cx}
end
end L2
namespace L2
open PySem PySem.Spec PyProof.Rows
section
variable {X:Cx} {pins:List (Addr×Obj)} {σ:List (Option V)} {H:Hp} {s:Shared} {a:Addr}
end
end L2
namespace L2
open PySem PySem.Spec PyProof.Rows
section
open PySem.W
noncomputable def In (p:Array Nat) (n:Nat):Prop:=0 < n/\∀x∈p.toList,x < n
theorem In.at {p:Array Nat} {n:Nat} (h:In p n) (i:Nat):p.getD i 0 < n:=by
 rw[ZB];cases e:p[i]? with
 |none=>exact h.1
 |some x=>exact h.2 x (fB (by rw[MA];exact e))
structure Od (lt:Nat->Nat->Bool) (n:Nat):Prop where
 tr:∀i j k,i < n->j < n->k < n->lt i j=true->lt j k=true->lt i k=true
 ir:∀i,i < n->lt i i=false
 to:∀i j,i < n->j < n->i≠j->lt i j=true\/lt j i=true
variable {lt:Nat->Nat->Bool} {n:Nat}
structure Pm (p:Array Nat) (n:Nat):Prop where
 sz:p.size=n
 lt:∀i,i < n->p.getD i 0 < n
 ne:∀i j,i < n->j < n->i≠j->p.getD i 0≠p.getD j 0
 pe:p.Perm (List.range n).toArray
noncomputable def Up (lt:Nat->Nat->Bool) (p:Array Nat) (m:Nat):Prop:=∀i j,i < j->j < m->lt (p.getD i 0) (p.getD j 0)=true
noncomputable def Dn (lt:Nat->Nat->Bool) (p:Array Nat) (m:Nat):Prop:=∀i j,i < j->j < m->lt (p.getD j 0) (p.getD i 0)=true
theorem Up.succ {p:Array Nat} {m:Nat} (o:Od lt n) (hp:Pm p n) (h:Up lt p m) (h1:1<=m) (hm:m < n) (c:lt (p.getD (m - 1) 0) (p.getD m 0)=true):Up lt p (m+1):=λi j hij hj=>by
 rcases (by omega:j < m\/j=m) with hj|rfl
 ·exact h i j hij hj
 ·rcases (by omega:i < j - 1\/i=j - 1) with hi|rfl
  ·exact o.tr _ _ _ (hp.lt _ ⋯) (hp.lt _ ⋯) (hp.lt _ hm) (h i (j - 1) hi ⋯) c
  ·exact c
theorem Dn.succ {p:Array Nat} {m:Nat} (o:Od lt n) (hp:Pm p n) (h:Dn lt p m) (h1:1<=m) (hm:m < n) (c:lt (p.getD m 0) (p.getD (m - 1) 0)=true):Dn lt p (m+1):=λi j hij hj=>by
 rcases (by omega:j < m\/j=m) with hj|rfl
 ·exact h i j hij hj
 ·rcases (by omega:i < j - 1\/i=j - 1) with hi|rfl
  ·exact o.tr _ _ _ (hp.lt _ hm) (hp.lt _ ⋯) (hp.lt _ ⋯) c (h i (j - 1) hi ⋯)
  ·exact c
theorem other {p:Array Nat} (o:Od lt n) (hp:Pm p n) {i j:Nat} (hi:i < n) (hj:j < n) (ne:i≠j) (c:lt (p.getD i 0) (p.getD j 0)=false):lt (p.getD j 0) (p.getD i 0)=true:=by
 rcases o.to _ _ (hp.lt i hi) (hp.lt j hj) (hp.ne i j hi hj ne) with h|h
 ·rw[h] at c;cases c
 ·exact h
end
end L2
namespace L2
open PySem PySem.Spec PyProof.Rows
section
variable {prog:Program} {w:World} {A:Around} {E:Value->Shared->Prop} {s:Shared}
end
end L2
namespace L2
open PySem PySem.Spec PyProof.Rows
end L2
namespace L2
open PySem PySem.Spec PyProof.Rows
section
variable {prog:Program} {w:World} {K:Type} [DecidableEq K] {knd:HeapKind prog w K} {A:Around} {E:Value->Shared->Prop} {s:Shared}
end
end L2
namespace L2
open PySem PySem.Spec PyProof.Rows
end L2
namespace L2
open PySem PySem.Spec PyProof.Rows
end L2
namespace L2
open PySem PySem.Spec PyProof.Rows
section
variable {M:Model} {A:Around} {E:Value->Shared->Prop} {s:Shared} {env:Env}
end
section
variable {M:Model} {A:Around} {E:Value->Shared->Prop} {s:Shared} {env:Env}
end
section
variable {X:Cx}
end
end L2
namespace L2
open PySem PySem.Spec PyProof.Rows
section
variable {prog:Program} {w:World} {A:Around} {E:Value->Shared->Prop} {s:Shared}
end
section
variable {prog:Program} {w:World} {A:Around} {E:Value->Shared->Prop} {s:Shared}
end
section
variable {X:Cx}
end
end L2
namespace L2
open PySem PySem.Spec PyProof.Rows
end L2
namespace L2
open PySem PySem.Spec PyProof.Rows
section
variable {K:PySem.W.Frag} {h:Heap} {mg:Str->Option Value} {x qual:Str} {st:Stmt} {ps:List Str} {C f:Addr} {oc:Value} {od an:Option Addr} {osl:Array (Option Value)} {kV doc pm cdv ct:Value}
noncomputable def GF (K:PySem.W.Frag) (x:Str) (st:Stmt):Prop:=∃f fd,PySem.W.nsIn K mainGlobals x=some (some (.ref f))/\sG K x x st f fd
theorem GF.mk (a:PySem.W.nsIn K mainGlobals x=some (some (.ref f))) (l:K.lookup f=some ⟨oc,od,.func (PySem.W.fnOf x x (BC st) (zC st) (mC st) .none kV doc pm an cdv ct),osl⟩) (c:PySem.W.codeIn K cdv x=true) (k:PySem.W.keepIn K (.ref f)=true):GF K x st:=⟨_,_,a,YT l c k⟩
theorem GF.raw (g:GF K x st) (X:K.In h) (G:h.Ns mainGlobals mg) (b:∀(kV doc pm:Value) (an:Option Addr) (cdv ct:Value) (us:List Value),us.length=ps.length->bindArgs (PySem.W.fnOf x x (BC st) (zC st) (mC st) .none kV doc pm an cdv ct) ⟨us,[]⟩=pure (ps.zip us)):EE K mg x x st ps []:=
 let ⟨_,_,a,F⟩:=g
 ⟨_,_,_,PySem.W.mg_of X G a,F,F.binds b,.nil⟩
theorem GF.law (g:GF K x st) (X:K.In h) (G:h.Ns mainGlobals mg) {p:Str} (b:∀(kV doc pm:Value) (an:Option Addr) (cdv ct u:Value),bindArgs (PySem.W.fnOf x x (BC st) (zC st) (mC st) .none kV doc pm an cdv ct) ⟨[u],[]⟩=pure [(p,u)]):∃f fd,mg x=some (.ref f)/\sG K x x st f fd/\∀(s:Shared) (u:Value),BindsTo s fd ⟨[u],[]⟩ [(p,u)]:=by
 obtain⟨f,fd,a,F⟩:=g;refine⟨f,fd,PySem.W.mg_of X G a,F,λs u=>?_⟩;obtain⟨oc,od,kV,doc,pm,an,cdv,ct,osl,rfl,lk,hcd⟩:=F.ex;exact .of_eq (b ..)
noncomputable def MF (K:PySem.W.Frag) (C:Addr) (x qual:Str) (st:Stmt):Prop:=∃f fd,JG K C x f/\sG K x qual st f fd
theorem MF.mk (a:PySem.W.findIn K (.ref C) x=some (some (.ref f))) (i:PySem.W.isFn K (.ref f)=true) (l:K.lookup f=some ⟨oc,od,.func (PySem.W.fnOf x qual (BC st) (zC st) (mC st) .none kV doc pm an cdv ct),osl⟩) (c:PySem.W.codeIn K cdv qual=true) (k:PySem.W.keepIn K (.ref f)=true):MF K C x qual st:=⟨_,_,⟨a,i,k⟩,YT l c k⟩
theorem MF.raw (g:MF K C x qual st) (b:∀(kV doc pm:Value) (an:Option Addr) (cdv ct:Value) (us:List Value),us.length=ps.length->bindArgs (PySem.W.fnOf x qual (BC st) (zC st) (mC st) .none kV doc pm an cdv ct) ⟨us,[]⟩=pure (ps.zip us)):CD K C x qual st ps []:=
 let ⟨_,_,a,F⟩:=g
 ⟨_,_,_,a,F,F.binds b,.nil⟩
noncomputable def IF (K:PySem.W.Frag) (C:Addr) (qual:Str) (st:Stmt):Prop:=∃f fd,Mk K C f/\sG K "__init__" qual st f fd
theorem IF.mk (m:PySem.W.makesIn K C=true) (kc:PySem.W.keepIn K (.ref C)=true) (a:PySem.W.findIn K (.ref C) "__init__"=some (some (.ref f))) (i:PySem.W.isFn K (.ref f)=true) (l:K.lookup f=some ⟨oc,od,.func (PySem.W.fnOf "__init__" qual (BC st) (zC st) (mC st) .none kV doc pm an cdv ct),osl⟩) (c:PySem.W.codeIn K cdv qual=true) (k:PySem.W.keepIn K (.ref f)=true):IF K C qual st:=⟨_,_,⟨m,a,i,kc⟩,YT l c k⟩
theorem IF.raw (g:IF K C qual st) (X:K.In h) (G:h.Ns mainGlobals mg) (n:PySem.W.nsIn K mainGlobals x=some (some (.ref C))) (b:∀(kV doc pm:Value) (an:Option Addr) (cdv ct:Value) (us:List Value),us.length=ps.length->bindArgs (PySem.W.fnOf "__init__" qual (BC st) (zC st) (mC st) .none kV doc pm an cdv ct) ⟨us,[]⟩=pure (ps.zip us)):lH K mg x C qual st ps []:=
 let ⟨_,_,a,F⟩:=g
 ⟨_,_,_,PySem.W.mg_of X G n,a,F,F.binds b,.nil⟩
end
end L2
namespace L2
open PySem PySem.Spec PyProof.Rows
namespace ST
noncomputable def PR (m i:Nat):Nat:=(i * 5+1) % (m+1)
noncomputable def QR (m:Nat):Nat->Nat->List Nat
 |0,_=>[]
 |k+1,i=>i::QR m k (PR m i)
theorem qU:∀i,i < 8->∀j,j < 8->j∈QR 7 8 i:=by decide
theorem wO:∀i,i < 32->∀j,j < 32->j∈QR 31 32 i:=∅
noncomputable def qH (m:Nat):Nat->Nat->Nat
 |0,i=>i
 |k+1,i=>qH m k (PR m i)
theorem sU {m j:Nat}:∀{k i:Nat},j∈QR m k i->∃n,n < k/\qH m n i=j
 |0,_,h=>by cases h
 |k+1,i,h=>by
  rcases wA.mp h with h|h
  ·exact⟨0,⋯,h.symm⟩
  ·obtain⟨n,h1,h2⟩:=sU h;exact⟨n+1,⋯,h2⟩
noncomputable def Mk (m:Nat):Prop:=m=7\/m=31
theorem yi {m:Nat} (hm:Mk m) {i j:Nat} (hi:i<=m) (hj:j<=m):∃n,n<=m/\qH m n i=j:=by
 rcases hm with rfl|rfl
 ·obtain⟨n,h1,h2⟩:=sU (qU i ⋯ j ⋯);exact⟨n,⋯,h2⟩
 ·obtain⟨n,h1,h2⟩:=sU (wO i ⋯ j ⋯);exact⟨n,⋯,h2⟩
noncomputable def lp (m:Nat):Nat->Nat×Nat->Nat×Nat
 |0,x=>x
 |k+1,x=>SetTable.leap m (lp m k x).1 (lp m k x).2
theorem xO {m:Nat} {x:Nat×Nat} (h:x.1<=m):∀k,(lp m k x).1<=m
 |0=>h
 |k+1=>by
  show (_ % (m+1))<=m;have:=Nat.mod_lt ((lp m k x).1 * 5+1+(lp m k x).2 / 32) (show 0 < m+1 by omega);omega
theorem a8 {m:Nat} {x:Nat×Nat}:∀k,(lp m k x).2=x.2 / 32 ^ k
 |0=>by show x.2=_;rw[Nat.pow_zero,Nat.div_one]
 |k+1=>by
  show (lp m k x).2 / 32=_;rw[a8 k,Nat.div_div_eq_div_mul,Nat.pow_succ]
theorem mL {m:Nat} {x:Nat×Nat} (hx:x.2 < 2 ^ 64) {k:Nat} (hk:13<=k):(lp m k x).2=0:=by
 rw[a8];apply Nat.div_eq_of_lt;have:(32:Nat) ^ 13<=32 ^ k:=Nat.pow_le_pow_right ⋯ hk;have e:(32:Nat) ^ 13=2 ^ 65:=by decide
 omega
theorem c8 {m:Nat}:∀{n i:Nat},qH m (n+1) i=PR m (qH m n i)
 |0,_=>rfl
 |n+1,i=>c8 (n:=n) (i:=PR m i)
theorem d8 {m:Nat} {x:Nat×Nat} (hx:x.2 < 2 ^ 64):∀n,(lp m (13+n) x).1=qH m n (lp m 13 x).1
 |0=>rfl
 |n+1=>by
  rw[c8,<-d8 hx n];show ((lp m (13+n) x).1 * 5+1+(lp m (13+n) x).2 / 32) % (m+1)=_;rw[mL hx ⋯]
  rfl
theorem nL {m:Nat} (hm:Mk m) {x:Nat×Nat} (h:x.1<=m) (hx:x.2 < 2 ^ 64) {j:Nat} (hj:j<=m):∃k,k<=13+m/\(lp m k x).1=j:=by
 obtain⟨n,h1,h2⟩:=yi hm (xO h 13) hj;exact⟨13+n,⋯,by rw[d8 hx];exact h2⟩
theorem zi (h:Int):SetTable.bits h < 2 ^ 64:=by unfold SetTable.bits;omega
noncomputable def yO (t:SetTable) (x:Nat×Nat):SetTable.Probe:=⟨x.1,SetTable.runEnd t.mask x.1 - x.1,x.1,x.2,none⟩
theorem e8 {m:Nat} {x:Nat×Nat}:∀n,lp m (n+1) x=lp m n (SetTable.leap m x.1 x.2)
 |0=>rfl
 |n+1=>by
  show SetTable.leap m (lp m (n+1) x).1 (lp m (n+1) x).2=_;rw[e8 n]
  rfl
theorem f8 {m:Nat} {ow:Array (Option Nat)}:∀{n fuel:Nat} {x:Nat×Nat},n < fuel->ow.getD (lp m n x).1 (some 0)=none->∃j,SetTable.layClean.free m ow fuel x.1 x.2=some j/\ow.getD j (some 0)=none
 |n,fuel+1,x,hf,he=>by
  unfold SetTable.layClean.free;cases e:(List.range (SetTable.runEnd m x.1+1 - x.1)).find? λk=>(ow.getD (x.1+k) (some 0)).isNone with
  |some k=>
   have h1:=List.find?_some e;exact⟨_,rfl,Option.isNone_iff_eq_none.mp h1⟩
  |none=>
   dsimp only;cases n with
   |zero=>
    exfalso;have h1:=List.find?_eq_none.mp e 0 (List.mem_range.mpr (by unfold SetTable.runEnd;split<;>omega));apply h1;rw[Nat.add_zero];exact Option.isNone_iff_eq_none.mpr he
   |succ n=>
    rw[e8] at he;exact f8 (x:=SetTable.leap m x.1 x.2) ⋯ he
structure Ow (m:Nat) (ow:Array (Option Nat)) (js:List Nat):Prop where
 sz:ow.size=m+1
 nd:js.Nodup
 le:∀j∈js,j<=m
 at_:∀j,j<=m->ow[j]?=some (if j∈js then some (js.idxOf j) else none)
theorem Ow.zero (m:Nat):Ow m (Array.replicate (m+1) none) []:=⟨by simp,.nil,(λj h=>by cases h),λj hj=>by
 rw[Array.getElem?_replicate,bA ⋯];rfl⟩
theorem Ow.next {m:Nat} (hm:Mk m) {ow:Array (Option Nat)} {js:List Nat} (h:Ow m ow js) (hl:js.length<=m) (hs:Int):
  ∃j,SetTable.layClean.free m ow (SetTable.turns m) (SetTable.bits hs % (m+1)) (SetTable.bits hs)=some j/\Ow m (ow.setIfInBounds j (some js.length)) (js++[j]):=by
 have hno:∃j,j<=m/\j∉js:=by
  apply Classical.byContradiction;intro hno;have sub:List.range (m+1) ⊆ js:=λj hj=>Classical.byContradiction λq=>hno ⟨j,by have:=List.mem_range.mp hj;omega,q⟩;have:=(List.nodup_range (n:=m+1)).length_le_of_subset sub;rw[CB] at this;omega
 obtain⟨j0,hj0,hj1⟩:=hno;have h1:SetTable.bits hs % (m+1)<=m:=by
  have:=Nat.mod_lt (SetTable.bits hs) (show 0 < m+1 by omega);omega
 obtain⟨k,hk,e1⟩:=nL hm (x:=(SetTable.bits hs % (m+1),SetTable.bits hs)) h1 (zi hs) hj0;obtain⟨j,e2,e3⟩:=f8 (m:=m) (ow:=ow) (n:=k) (fuel:=SetTable.turns m) (x:=(SetTable.bits hs % (m+1),SetTable.bits hs)) (by unfold SetTable.turns;omega) (by
  rw[e1,ZB,h.at_ j0 hj0,aA hj1];rfl)
 refine⟨j,e2,?_⟩;have hjm:j<=m:=by
  apply Classical.byContradiction;intro q;rw[ZB,Array.getElem?_eq_none (by rw[h.sz];omega)] at e3;cases e3
 have hjn:j∉js:=λq=>by
  rw[ZB,h.at_ j hjm,bA q] at e3;cases e3
 refine⟨by rw[Array.size_setIfInBounds];exact h.sz,?_,?_,λi hi=>?_⟩
 ·rw[LB];refine⟨h.nd,by simp,λa ha b hb e=>?_⟩;rw[gA.mp hb] at e;exact hjn (e ▸ ha)
 ·intro i hi;rcases rA.mp hi with q|q
  ·exact h.le i q
  ·rw[gA.mp q];exact hjm
 ·rw[Array.getElem?_setIfInBounds];by_cases q:j=i
  ·subst q;rw[bA rfl,bA (by rw[h.sz];omega),bA (BA _ (gA.mpr rfl)),List.idxOf_append,aA hjn];simp
  ·rw[aA q,h.at_ i hi];by_cases r:i∈js
   ·rw[bA r,bA (RA _ r),List.idxOf_append,bA r]
   ·rw[aA r,aA];intro z;rcases rA.mp z with z|z
    ·exact r z
    ·exact q (gA.mp z).symm
section
variable {prog:Program} {w:World} {A:Around} {E:Value->Shared->Prop} {s:Shared} {a:Addr} {o:Obj} {items:Array Value} {n:Nat} {Q:Bool->Shared->Prop}
end
section
variable {prog:Program} {w:World} {K:Type} [DecidableEq K] {knd:KeyKind prog w K} {A:Around} {E:Value->Shared->Prop} {s:Shared} {S a:Addr} {o:Obj} {es:Array (Int×Value)} {ep:Nat} {t:SetTable} {k:List K}
end
section
variable {prog:Program} {w:World} {K:Type} [DecidableEq K] {knd:KeyKind prog w K} {A:Around} {E:Value->Shared->Prop} {s:Shared} {S a:Addr} {k:List K} {ks:List (List K)}
noncomputable def TB (knd:KeyKind prog w K) (h:Heap) (S:Addr) (ks:List (List K)):Prop:=∃o es ep t,h.get? S=some o/\o.ExactSet/\o.data=.set es ep t/\Mk t.mask/\t.dummies= #[]/\t.place.size=es.size/\es.size=ks.length/\(t.mask=7->es.size<=4)/\
 ∀e∈es.toList,∃k' b,k'∈ks/\e=(tupleKeyHash knd k',.ref b)/\IsTupleKey knd h k' b
end
section
variable {prog:Program} {w:World} {K:Type} [DecidableEq K] {knd:KeyKind prog w K} {A:Around} {R:Result->Shared->Prop} {I:Addr} {fp wr:List Addr} {G:Array GenState->Array GenState->Prop} {n:Nat} {P:Nat->Value->Prop} {St:Nat->Shared->Prop}
theorem pL {h h':Heap} {k:List K} {a:Addr} (x:IsTupleKey knd h k a) (hk:∀o,h.get? a=some o->h'.get? a=some o):IsTupleKey knd h' k a:=by
 obtain⟨o',items,n,ho',hc,hd',hi⟩:=x;exact⟨o',items,n,hk _ ho',hc,hd',hi⟩
theorem TB.keep {h h':Heap} {S:Addr} {ks:List (List K)} (hT:TB knd h S ks) (hS:∀o,h.get? S=some o->h'.get? S=some o) (hk:∀b k,IsTupleKey knd h k b->∀o,h.get? b=some o->h'.get? b=some o):TB knd h' S ks:=by
 obtain⟨o,es,ep,t,ho,h1,h2,h3,h4,h5,h6,h7,h8⟩:=hT;refine⟨o,es,ep,t,hS _ ho,h1,h2,h3,h4,h5,h6,h7,λe he=>?_⟩;obtain⟨k',b,a1,a2,a3⟩:=h8 e he;exact⟨k',b,a1,a2,pL a3 (hk b k' a3)⟩
end
section
variable {prog:Program} {w:World} {K:Type} [DecidableEq K] {knd:KeyKind prog w K} {A:Around} {E:Value->Shared->Prop} {s:Shared}
end
end ST
end L2
namespace L2
open PySem PySem.Spec PyProof.Rows
end L2
namespace L2
open PySem PySem.Spec PyProof.Rows
namespace TS
noncomputable def Od (kd:SortKind) (Ok:Keyed->Prop) (rk:Keyed->Int) (M:Model) (A:Around) (E:Value->Shared->Prop) (s:Shared):Prop:=
 ∀(st:SortSt) (x y:Keyed) (Q:Option Bool->SortSt->Prop),kindOf st=kd->Ok x->Ok y->Q (some (decide (rk x < rk y))) st->wpS M A E s (lt' x y) Q st
noncomputable def Kr (rk:Keyed->Int) (xs:Array Keyed) (i:Nat):Int:=match xs[i]? with
 |some p=>rk p
 |none=>0
theorem qL {rk:Keyed->Int} {xs ys:Array Keyed} {i j:Nat} (h:xs[i]?=ys[j]?):Kr rk xs i=Kr rk ys j:=by unfold Kr;rw[h]
theorem VF {rk:Keyed->Int} {xs:Array Keyed} {i:Nat} {p:Keyed} (h:xs[i]?=some p):Kr rk xs i=rk p:=by unfold Kr;rw[h]
noncomputable def VE (rk:Keyed->Int) (xs:Array Keyed) (lo n:Nat):Prop:=∀i j,i<=j->j < n->Kr rk xs (lo+i)<=Kr rk xs (lo+j)
noncomputable def TM (rk:Keyed->Int) (xs:Array Keyed) (lo n:Nat):Prop:=∀i j,i<=j->j < n->Kr rk xs (lo+j)<=Kr rk xs (lo+i)
noncomputable def dF (xs ys:Array Keyed) (lo n:Nat):Prop:=∀k,k < lo\/lo+n<=k->ys[k]?=xs[k]?
theorem dF.rfl' {xs:Array Keyed} {lo n:Nat}:dF xs xs lo n:=λο ο=>rfl
theorem dF.trans {xs ys zs:Array Keyed} {lo n:Nat} (h:dF xs ys lo n) (g:dF ys zs lo n):dF xs zs lo n:=λk hk=>(g k hk).trans (h k hk)
theorem dF.wide {xs ys:Array Keyed} {lo n lo' n':Nat} (h:dF xs ys lo n) (h1:lo'<=lo) (h2:lo+n<=lo'+n'):dF xs ys lo' n':=λk hk=>h k ⋯
theorem VE.out {rk:Keyed->Int} {xs ys:Array Keyed} {lo n lo' n':Nat} (h:VE rk xs lo n) (o:dF xs ys lo' n') (d:lo+n<=lo'\/lo'+n'<=lo):VE rk ys lo n:=λi j hij hj=>by
 rw[qL (o (lo+i) ⋯),qL (o (lo+j) ⋯)];exact h i j hij hj
structure Sb (a₀:Array Keyed) (kd:SortKind) (pd:Array (Nat×Nat×Nat)) (st:SortSt):Prop where
 perm:(arrOf st).Perm a₀
 kind:kindOf st=kd
 failed:failedOf st=none
 pend:pendingOf st=pd
theorem Sb.size {a₀:Array Keyed} {kd:SortKind} {pd:Array (Nat×Nat×Nat)} {st:SortSt} (h:Sb a₀ kd pd st):(arrOf st).size=a₀.size:=h.perm.size_eq
theorem Sb.set {a₀:Array Keyed} {kd:SortKind} {pd:Array (Nat×Nat×Nat)} {st:SortSt} (h:Sb a₀ kd pd st) {xs:Array Keyed} (hp:xs.Perm (arrOf st)):Sb a₀ kd pd (setArr st xs):=⟨hp.trans h.perm,h.kind,h.failed,h.pend⟩
noncomputable def nE (Ok:Keyed->Prop) (a₀:Array Keyed):Prop:=∀p∈a₀.toList,Ok p
theorem Sb.at {Ok:Keyed->Prop} {a₀:Array Keyed} {kd:SortKind} {pd:Array (Nat×Nat×Nat)} {st:SortSt} (h:Sb a₀ kd pd st) (h0:nE Ok a₀) {i:Nat} (hi:i < a₀.size):∃p,(arrOf st)[i]?=some p/\Ok p:=by
 have hi':i < (arrOf st).size:=by rw[h.size];exact hi
 have hm:(arrOf st)[i]∈a₀.toList:=(Array.perm_iff_toList_perm.mp h.perm).mem_iff.mp (by simp);exact⟨_,getElem?_pos _ i hi',h0 _ hm⟩
section
variable {M:Model} {A:Around} {E:Value->Shared->Prop} {s:Shared} {a₀:Array Keyed} {kd:SortKind} {pd:Array (Nat×Nat×Nat)} {Ok:Keyed->Prop} {rk:Keyed->Int}
theorem LF {xs:Array Keyed} {i:Nat} {p:Keyed} {Q:Keyed->SortSt->Prop} {st:SortSt} (h:xs[i]?=some p) (q:Q p st):wpS M A E s (elem' xs i) Q st:=by
 rw[elem'_eq,h];exact AA q
theorem zO {st:SortSt} {i j:Nat} {Q:Option Bool->SortSt->Prop} (od:Od kd Ok rk M A E s) (hB:Sb a₀ kd pd st) (h0:nE Ok a₀) (hi:i < a₀.size) (hj:j < a₀.size)
  (h:Q (some (decide (Kr rk (arrOf st) i < Kr rk (arrOf st) j))) st):wpS M A E s (ltAt' i j) Q st:=by
 obtain⟨p,e1,o1⟩:=hB.at h0 hi;obtain⟨q,e2,o2⟩:=hB.at h0 hj;rw[ltAt'_eq];refine pA (wpS_get ?_);show wpS _ _ _ _ (do let x<-elem' (arrOf st) i;let y<-elem' (arrOf st) j;lt' x y) Q st;refine pA (LF e1 (pA (LF e2 ?_)));rw[VF e1,VF e2] at h;exact od st p q Q hB.kind o1 o2 h
theorem i8 {xs:Array Keyed} {src d:Nat} (hs:src < xs.size) (hd:d<=src) (k:Nat):
  Kr rk (bubble xs src d) k=if k=src - d then Kr rk xs src else if src - d < k/\k<=src then Kr rk xs (k - 1) else Kr rk xs k:=by
 have e:=getElem?_bubble hs d hd k;by_cases h1:k=src - d
 ·rw[bA h1] at e ⊢;exact qL e
 ·rw[aA h1] at e ⊢;by_cases h2:src - d < k/\k<=src
  ·rw[bA h2] at e ⊢;exact qL e
  ·rw[aA h2] at e ⊢;exact qL e
theorem tU {xs:Array Keyed} {i j:Nat} (hj:j<=xs.size) (k:Nat):
  Kr rk (mirror xs i j ((j - i) / 2)) k=if i<=k/\k < j then Kr rk xs (i+j - 1 - k) else Kr rk xs k:=by
 have e:=getElem?_mirror_all (i:=i) hj k;by_cases h1:i<=k/\k < j
 ·rw[bA h1] at e ⊢;exact qL e
 ·rw[aA h1] at e ⊢;exact qL e
theorem AO {xs:Array Keyed} {i j:Nat} (hj:j<=xs.size) (heq:∀k,i<=k->k < j->Kr rk xs k=Kr rk xs (j - 1)) (k:Nat):
  Kr rk (mirror xs i j ((j - i) / 2)) k=Kr rk xs k:=by
 rw[tU hj]
 split
 ·rw[heq _ ⋯ ⋯,heq k ⋯ ⋯]
 ·rfl
theorem SR {xs:Array Keyed} {i j lo n:Nat} (hj:j<=xs.size) (h1:lo<=i) (h2:j<=lo+n):dF xs (mirror xs i j ((j - i) / 2)) lo n:=λk hk=>by
 rw[getElem?_mirror_all hj,aA ⋯]
theorem Ti {xs:Array Keyed} {src d lo n:Nat} (hs:src < xs.size) (hd:d<=src) (h1:lo<=src - d) (h2:src < lo+n):dF xs (bubble xs src d) lo n:=λk hk=>by
 rw[getElem?_bubble hs d hd,aA ⋯,aA ⋯]
theorem Ui {st:SortSt} {lo n ok:Nat} {Q:Bool->SortSt->Prop} (od:Od kd Ok rk M A E s) (h0:nE Ok a₀) (hn:lo+n<=a₀.size) (hok:ok<=n) (hB:Sb a₀ kd pd st) (hs:VE rk (arrOf st) lo ok)
  (h:∀st',Sb a₀ kd pd st'->VE rk (arrOf st') lo n->dF (arrOf st) (arrOf st') lo n->Q true st'):wpS M A E s (binarySort' lo n ok) Q st:=by
 rw[binarySort'_eq];refine pA (DB (sB (I:=λk c st'=>c=(none,())/\Sb a₀ kd pd st'/\VE rk (arrOf st') lo (min k n)/\dF (arrOf st) (arrOf st') lo n)
  (Q:=λc st'=>c=(none,())/\Sb a₀ kd pd st'/\VE rk (arrOf st') lo n/\dF (arrOf st) (arrOf st') lo n) ?step ?fin ?init) ?post)
 case post=>
  rintro c st' ⟨rfl,hB',hs',ho⟩;exact AA (h st' hB' hs' ho)
 case init=>
  refine⟨rfl,hB,λi j hij hj=>?_,dF.rfl'⟩;by_cases h1:ok=0
  ·have:i=j:=⋯;subst this;exact aB _
  ·exact hs i j hij ⋯
 case fin=>
  rintro c st' ⟨hc,hB',hs',ho⟩;refine⟨hc,hB',?_,ho⟩;rwa[show min (max (max ok 1) n) n=n by omega] at hs'
 case step=>
  rintro k c st' hak hkn ⟨rfl,hB',hs',ho⟩;rw[show min k n=k by omega] at hs';have hk:lo+k < a₀.size:=⋯;refine pA (DB (sB (I:=λx c st''=>st''=st'/\∃l r,c=(none,l,r)/\l<=r/\r<=k/\r - l<=k - x/\
    (∀i,i < l->Kr rk (arrOf st') (lo+i)<=Kr rk (arrOf st') (lo+k))/\(∀i,r<=i->i < k->Kr rk (arrOf st') (lo+k) < Kr rk (arrOf st') (lo+i)))
   (Q:=λc st''=>st''=st'/\∃l r,c=(none,l,r)/\l<=k/\
    (∀i,i < l->Kr rk (arrOf st') (lo+i)<=Kr rk (arrOf st') (lo+k))/\(∀i,l<=i->i < k->Kr rk (arrOf st') (lo+k) < Kr rk (arrOf st') (lo+i))) ?istep ?ifin ?iinit) ?ipost)
  case iinit=>exact⟨rfl,0,k,rfl,⋯,⋯,⋯,λi hi=>⋯,λi h1 h2=>⋯⟩
  case ifin=>
   rintro c st'' ⟨rfl,l,r,rfl,hlr,hrk,hm,hlo,hhi⟩;have:l=r:=⋯;subst this;exact⟨rfl,l,l,rfl,hrk,hlo,hhi⟩
  case istep=>
   rintro x c st'' _ hxk ⟨rfl,l,r,rfl,hlr,hrk,hm,hlo,hhi⟩;dsimp only;by_cases hge:l>=r
   ·rw[bA hge];have:l=r:=⋯;subst this;exact AA ⟨rfl,l,l,rfl,hrk,hlo,hhi⟩
   ·rw[aA hge];refine pA (zO od hB' h0 hk ⋯ ?_);by_cases hless:Kr rk (arrOf st'') (lo+k) < Kr rk (arrOf st'') (lo+(l+r) / 2)
    ·simp only[hless,decide_true,PB];refine AA ⟨rfl,l,(l+r) / 2,rfl,⋯,⋯,⋯,hlo,λi h1 h2=>?_⟩;exact Int.lt_of_lt_of_le hless (hs' _ _ h1 h2)
    ·simp only[hless,decide_false,IA,wB];refine AA ⟨rfl,(l+r) / 2+1,r,rfl,⋯,⋯,⋯,λi h1=>?_,hhi⟩;exact mB (hs' i ((l+r) / 2) ⋯ ⋯) (Int.not_lt.mp hless)
  case ipost=>
   rintro c st'' ⟨rfl,l,r,rfl,hlk,hlo,hhi⟩;show wpS _ _ _ _ (do moveDown' (lo+k) (lo+l);pure (ForInStep.yield (none,()))) _ _;rw[moveDown'_eq];have hks:lo+k < (arrOf st'').size:=by rw[hB'.size];exact hk
   refine pA (wpS_modify (AA ⟨rfl,hB'.set (bubble_perm _ _ _),?_,ho.trans (Ti hks ⋯ ⋯ ⋯)⟩));rw[show min (k+1) n=k+1 by omega];intro i j hij hj;show Kr rk (bubble (arrOf st'') (lo+k) (lo+k - (lo+l))) (lo+i)<=Kr rk (bubble (arrOf st'') (lo+k) (lo+k - (lo+l))) (lo+j);rw[i8 hks ⋯,i8 hks ⋯,show lo+k - (lo+k - (lo+l))=lo+l by omega]
   repeat' split
   all_goals first
    |(exfalso;omega)
    |exact aB _
    |exact hlo _ ⋯
    |(rw[show lo+j - 1=lo+(j - 1) by omega];exact FB (hhi _ ⋯ ⋯))
    |exact hs' _ _ ⋯ ⋯
    |(rw[show lo+j - 1=lo+(j - 1) by omega];exact hs' _ _ ⋯ ⋯)
    |(rw[show lo+i - 1=lo+(i - 1) by omega,show lo+j - 1=lo+(j - 1) by omega];exact hs' _ _ ⋯ ⋯)
    |(rw[show lo+i - 1=lo+(i - 1) by omega];exact hs' _ _ ⋯ ⋯)
end
noncomputable def mG (lo a nrem:Nat):StateT SortSt Sem AscSt:=
 forIn [a:nrem] ((none,a):AscSt) λο __s=>do
  let __x<-ltAt' (lo+__s.snd) (lo+__s.snd - 1)
  match __x with
  |some smaller=>if smaller=true then pure (ForInStep.done (none,__s.snd)) else pure (ForInStep.yield (none,__s.snd+1))
  |_=>pure (ForInStep.done (some none,__s.snd))
noncomputable def bG (lo n nrem:Nat):StateT SortSt Sem (Option Nat):=do
 reverseSlice' lo (lo+n)
 let __s<-mG lo n nrem
 match __s.fst with
 |some r=>pure r
 |none=>pure (some __s.snd)
noncomputable def vG (lo n nrem:Nat):StateT SortSt Sem DescSt:=
 forIn [n:nrem] ((none,n,0):DescSt) λο __s=>do
  let __x<-ltAt' (lo+__s.snd.fst) (lo+__s.snd.fst - 1)
  match __x with
  |some smaller=>
   if smaller=true then
    if __s.snd.snd > 0 then do
     reverseSlice' (lo+__s.snd.fst - (__s.snd.snd+1)) (lo+__s.snd.fst)
     pure (ForInStep.yield (none,__s.snd.fst+1,0))
    else pure (ForInStep.yield (none,__s.snd.fst+1,0))
   else do
    let __x<-ltAt' (lo+__s.snd.fst - 1) (lo+__s.snd.fst)
    match __x with
    |some larger=>
     if larger=true then pure (ForInStep.done (none,__s.snd.fst,__s.snd.snd))
     else pure (ForInStep.yield (none,__s.snd.fst+1,__s.snd.snd+1))
    |_=>pure (ForInStep.done (some none,__s.snd.fst,__s.snd.snd))
  |_=>pure (ForInStep.done (some none,__s.snd.fst,__s.snd.snd))
noncomputable def lF (lo n nrem:Nat):StateT SortSt Sem (Option Nat):=do
 liftM (rule "list.sort.descending-run")
 let __s<-vG lo (n+1) nrem
 match __s.fst with
 |some r=>pure r
 |none=>
  if __s.snd.snd > 0 then do
   reverseSlice' (lo+__s.snd.fst - (__s.snd.snd+1)) (lo+__s.snd.fst)
   bG lo __s.snd.fst nrem
  else bG lo __s.snd.fst nrem
theorem Vi (lo nrem:Nat):countRun' lo nrem=(do
  let __s<-mG lo 1 nrem
  match __s.fst with
  |some r=>pure r
  |none=>
   if (__s.snd == nrem)=true then pure (some __s.snd)
   else if __s.snd > 1 then do
    let __x<-ltAt' lo (lo+__s.snd - 1)
    match __x with
    |some rose=>if rose=true then pure (some __s.snd) else do
      reverseSlice' lo (lo+__s.snd)
      lF lo __s.snd nrem
    |_=>pure none
   else lF lo __s.snd nrem):=by
 rw[countRun'_eq];refine congrArg (Bind.bind (mG lo 1 nrem)) (funext λx=>?_);obtain⟨r,n⟩:=x;cases r with
 |some r=>rfl
 |none=>
  dsimp only
  split
  ·rfl
  ·split
   ·refine congrArg (Bind.bind (ltAt' lo (lo+n - 1))) (funext λx=>?_);cases x with
    |none=>rfl
    |some rose=>
     dsimp only
     split
     ·rfl
     ·refine congrArg (Bind.bind (reverseSlice' lo (lo+n))) (funext λο=>?_);unfold lF;refine congrArg (Bind.bind (liftM (rule "list.sort.descending-run"))) (funext λο=>?_);refine congrArg (Bind.bind (vG lo (n+1) nrem)) (funext λx=>?_);obtain⟨r2,n2,q2⟩:=x;cases r2 with
      |some r2=>rfl
      |none=>
       unfold bG;dsimp only
       split
       ·refine congrArg (Bind.bind (reverseSlice' (lo+n2 - (q2+1)) (lo+n2))) (funext λο=>?_);refine congrArg (Bind.bind (reverseSlice' lo (lo+n2))) (funext λο=>congrArg (Bind.bind (mG lo n2 nrem)) (funext λx=>?_));obtain⟨r3,n3⟩:=x;cases r3<;>rfl
       ·refine congrArg (Bind.bind (reverseSlice' lo (lo+n2))) (funext λο=>congrArg (Bind.bind (mG lo n2 nrem)) (funext λx=>?_));obtain⟨r3,n3⟩:=x;cases r3<;>rfl
   ·unfold lF;refine congrArg (Bind.bind (liftM (rule "list.sort.descending-run"))) (funext λο=>?_);refine congrArg (Bind.bind (vG lo (n+1) nrem)) (funext λx=>?_);obtain⟨r2,n2,q2⟩:=x;cases r2 with
    |some r2=>rfl
    |none=>
     unfold bG;dsimp only
     split
     ·refine congrArg (Bind.bind (reverseSlice' (lo+n2 - (q2+1)) (lo+n2))) (funext λο=>?_);refine congrArg (Bind.bind (reverseSlice' lo (lo+n2))) (funext λο=>congrArg (Bind.bind (mG lo n2 nrem)) (funext λx=>?_));obtain⟨r3,n3⟩:=x;cases r3<;>rfl
     ·refine congrArg (Bind.bind (reverseSlice' lo (lo+n2))) (funext λο=>congrArg (Bind.bind (mG lo n2 nrem)) (funext λx=>?_));obtain⟨r3,n3⟩:=x;cases r3<;>rfl
section
variable {M:Model} {A:Around} {E:Value->Shared->Prop} {s:Shared} {a₀:Array Keyed} {kd:SortKind} {pd:Array (Nat×Nat×Nat)} {Ok:Keyed->Prop} {rk:Keyed->Int}
theorem TR {st:SortSt} {i j:Nat} {Q:Unit->SortSt->Prop} (h:Q () (setArr st (mirror (arrOf st) i j ((j - i) / 2)))):wpS M A E s (reverseSlice' i j) Q st:=by
 rw[reverseSlice'_eq];exact wpS_modify h
theorem KJ {st:SortSt} {lo a nrem:Nat} {Q:AscSt->SortSt->Prop} (od:Od kd Ok rk M A E s) (h0:nE Ok a₀) (hn:lo+nrem<=a₀.size) (ha:1<=a) (han:a<=nrem) (hB:Sb a₀ kd pd st)
  (hs:VE rk (arrOf st) lo a)
  (h:∀n,a<=n->n<=nrem->VE rk (arrOf st) lo n->(n=nrem\/Kr rk (arrOf st) (lo+n) < Kr rk (arrOf st) (lo+n - 1))->Q (none,n) st):
  wpS M A E s (mG lo a nrem) Q st:=by
 unfold mG;refine sB (I:=λx c st'=>st'=st/\c=(none,x)/\VE rk (arrOf st) lo x) ?step ?fin ⟨rfl,rfl,hs⟩
 case fin=>
  rintro c st' ⟨rfl,rfl,hs'⟩;rw[show max a nrem=nrem by omega] at hs' ⊢;exact h nrem han (iA _) hs' (.inl rfl)
 case step=>
  rintro x c st' hax hxn ⟨rfl,rfl,hs'⟩;dsimp only;refine pA (zO od hB h0 ⋯ ⋯ ?_);by_cases hless:Kr rk (arrOf st') (lo+x) < Kr rk (arrOf st') (lo+x - 1)
  ·simp only[hless,decide_true,PB];exact AA (h x hax ⋯ hs' (.inr hless))
  ·simp only[hless,decide_false,IA,wB];refine AA ⟨rfl,rfl,λi j hij hj=>?_⟩;by_cases hjx:j < x
   ·exact hs' i j hij hjx
   ·have hj':j=x:=⋯;subst hj';by_cases hi':i=j
    ·subst hi';exact aB _
    ·have:=hs' i (j - 1) ⋯ ⋯;rw[show lo+(j - 1)=lo+j - 1 by omega] at this;exact mB this (Int.not_lt.mp hless)
theorem j8 {st:SortSt} {lo n nrem:Nat} {Q:Option Nat->SortSt->Prop} (od:Od kd Ok rk M A E s) (h0:nE Ok a₀) (hn:lo+nrem<=a₀.size) (h1:1<=n) (hnn:n<=nrem) (hB:Sb a₀ kd pd st)
  (hs:TM rk (arrOf st) lo n) (h:∀m st',Sb a₀ kd pd st'->1<=m->m<=nrem->VE rk (arrOf st') lo m->dF (arrOf st) (arrOf st') lo nrem->Q (some m) st'):
  wpS M A E s (bG lo n nrem) Q st:=by
 unfold bG;have hsz:lo+n<=(arrOf st).size:=by rw[hB.size];omega
 refine pA (TR ?_);have hB':Sb a₀ kd pd (setArr st (mirror (arrOf st) lo (lo+n) ((lo+n - lo) / 2))):=hB.set (mirror_perm _ _ _ _);refine pA (KJ od h0 hn h1 hnn hB' ?_ λm hm1 hm2 hsm ο=>AA (h m _ hB' ⋯ hm2 hsm (SR hsz (iA _) ⋯)));intro i j hij hj;show Kr rk (mirror (arrOf st) lo (lo+n) ((lo+n - lo) / 2)) (lo+i)<=Kr rk (mirror (arrOf st) lo (lo+n) ((lo+n - lo) / 2)) (lo+j);rw[tU hsz,tU hsz,bA ⋯,bA ⋯];have:=hs (n - 1 - j) (n - 1 - i) ⋯ ⋯;rw[show lo+(lo+n) - 1 - (lo+i)=lo+(n - 1 - i) by omega,show lo+(lo+n) - 1 - (lo+j)=lo+(n - 1 - j) by omega];exact this
theorem rL {st:SortSt} {lo n nrem:Nat} {Q:DescSt->SortSt->Prop} (od:Od kd Ok rk M A E s) (h0:nE Ok a₀) (hn:lo+nrem<=a₀.size) (h1:1<=n) (hnn:n<=nrem) (hB:Sb a₀ kd pd st)
  (hs:TM rk (arrOf st) lo n)
  (h:∀m neq st',Sb a₀ kd pd st'->n<=m->m<=nrem->TM rk (arrOf st') lo m->neq+1<=m->(∀i,m - (neq+1)<=i->i < m->Kr rk (arrOf st') (lo+i)=Kr rk (arrOf st') (lo+m - 1))->dF (arrOf st) (arrOf st') lo nrem->Q (none,m,neq) st'):
  wpS M A E s (vG lo n nrem) Q st:=by
 unfold vG;refine sB (I:=λx c st'=>∃neq,c=(none,x,neq)/\Sb a₀ kd pd st'/\TM rk (arrOf st') lo x/\neq+1<=x/\
   (∀i,x - (neq+1)<=i->i < x->Kr rk (arrOf st') (lo+i)=Kr rk (arrOf st') (lo+x - 1))/\dF (arrOf st) (arrOf st') lo nrem) ?step ?fin ⟨0,rfl,hB,hs,⋯,λi h1 h2=>by congr 1;omega,dF.rfl'⟩
 case fin=>
  rintro c st' ⟨neq,rfl,hB',hs',hq,he,ho⟩;rw[show max n nrem=nrem by omega] at hs' hq he ⊢;exact h nrem neq st' hB' hnn (iA _) hs' hq he ho
 case step=>
  rintro x c st' hax hxn ⟨neq,rfl,hB',hs',hq,he,ho⟩;dsimp only;have hsz:lo+x<=(arrOf st').size:=by rw[hB'.size];omega
  have he2:∀k,lo+x - (neq+1)<=k->k < lo+x->Kr rk (arrOf st') k=Kr rk (arrOf st') (lo+x - 1):=λk h1 h2=>by
   have:=he (k - lo) ⋯ ⋯;rw[show lo+(k - lo)=k by omega] at this;exact this
  refine pA (zO od hB' h0 ⋯ ⋯ ?_);by_cases hless:Kr rk (arrOf st') (lo+x) < Kr rk (arrOf st') (lo+x - 1)
  ·simp only[hless,decide_true,PB];have step1:∀xs:Array Keyed,(∀k,Kr rk xs k=Kr rk (arrOf st') k)->TM rk xs lo (x+1):=by
    intro xs hk i j hij hj;rw[hk,hk];by_cases hjx:j < x
    ·exact hs' i j hij hjx
    ·have hj':j=x:=⋯;subst hj';by_cases hi':i=j
     ·subst hi';exact aB _
     ·have:=hs' i (j - 1) ⋯ ⋯;rw[show lo+(j - 1)=lo+j - 1 by omega] at this;exact mB (FB hless) this
   by_cases hneq:neq > 0
   ·rw[bA hneq];refine pA (TR (AA ⟨0,rfl,hB'.set (mirror_perm _ _ _ _),step1 _ (AO hsz he2),⋯,λi h1 h2=>by congr 1;omega,ho.trans (SR hsz ⋯ ⋯)⟩))
   ·rw[aA hneq];exact AA ⟨0,rfl,hB',step1 _ (λο=>rfl),⋯,λi h1 h2=>by congr 1;omega,ho⟩
  ·simp only[hless,decide_false,IA,wB];refine pA (zO od hB' h0 ⋯ ⋯ ?_);by_cases hlarger:Kr rk (arrOf st') (lo+x - 1) < Kr rk (arrOf st') (lo+x)
   ·simp only[hlarger,decide_true,PB];exact AA (h x neq st' hB' hax ⋯ hs' hq he ho)
   ·simp only[hlarger,decide_false,IA,wB];have heqx:Kr rk (arrOf st') (lo+x)=Kr rk (arrOf st') (lo+x - 1):=⋯;refine AA ⟨neq+1,rfl,hB',λi j hij hj=>?_,⋯,λi h1 h2=>?_,ho⟩
    ·by_cases hjx:j < x
     ·exact hs' i j hij hjx
     ·have hj':j=x:=⋯;subst hj';by_cases hi':i=j
      ·subst hi';exact aB _
      ·have:=hs' i (j - 1) ⋯ ⋯;rw[show lo+(j - 1)=lo+j - 1 by omega] at this;rw[heqx];exact this
    ·rw[show lo+(x+1) - 1=lo+x by omega];by_cases hix:i=x
     ·subst hix;rfl
     ·rw[heqx];exact he i ⋯ ⋯
theorem k8 {st:SortSt} {lo n nrem:Nat} {Q:Option Nat->SortSt->Prop} (od:Od kd Ok rk M A E s) (h0:nE Ok a₀) (hn:lo+nrem<=a₀.size) (hnn:n+1<=nrem) (hB:Sb a₀ kd pd st)
  (hs:TM rk (arrOf st) lo (n+1)) (h:∀m st',Sb a₀ kd pd st'->1<=m->m<=nrem->VE rk (arrOf st') lo m->dF (arrOf st) (arrOf st') lo nrem->Q (some m) st'):
  wpS M A E s (lF lo n nrem) Q st:=by
 unfold lF;refine pA (wpS_lift (wpAny_rule ⟨rfl,?_⟩));refine pA (rL od h0 hn ⋯ hnn hB hs λm neq st' hB' hm1 hm2 hs' hq he ho=>?_);dsimp only;have hsz:lo+m<=(arrOf st').size:=by rw[hB'.size];omega
 have he2:∀k,lo+m - (neq+1)<=k->k < lo+m->Kr rk (arrOf st') k=Kr rk (arrOf st') (lo+m - 1):=λk h1 h2=>by
  have:=he (k - lo) ⋯ ⋯;rw[show lo+(k - lo)=k by omega] at this;exact this
 by_cases hneq:neq > 0
 ·rw[bA hneq];refine pA (TR (j8 od h0 hn ⋯ hm2 (hB'.set (mirror_perm _ _ _ _)) ?_ λm' st2 b1 b2 b3 b4 b5=>h m' st2 b1 b2 b3 b4 ((ho.trans (SR hsz ⋯ ⋯)).trans b5)));intro i j hij hj;show Kr rk (mirror (arrOf st') _ _ _) (lo+j)<=Kr rk (mirror (arrOf st') _ _ _) (lo+i);rw[AO hsz he2,AO hsz he2];exact hs' i j hij hj
 ·rw[aA hneq];exact j8 od h0 hn ⋯ hm2 hB' hs' λm' st2 b1 b2 b3 b4 b5=>h m' st2 b1 b2 b3 b4 (ho.trans b5)
theorem Wi {st:SortSt} {lo nrem:Nat} {Q:Option Nat->SortSt->Prop} (od:Od kd Ok rk M A E s) (h0:nE Ok a₀) (hn:lo+nrem<=a₀.size) (h1:1<=nrem) (hB:Sb a₀ kd pd st)
  (h:∀m st',Sb a₀ kd pd st'->1<=m->m<=nrem->VE rk (arrOf st') lo m->dF (arrOf st) (arrOf st') lo nrem->Q (some m) st'):
  wpS M A E s (countRun' lo nrem) Q st:=by
 rw[Vi];refine pA (KJ od h0 hn (iA 1) h1 hB (λi j hij hj=>by
  have:i=j:=⋯;subst this;exact aB _) λn hn1 hn2 hsn hor=>?_)
 dsimp only;by_cases hnn:n=nrem
 ·rw[bA (by simpa using hnn)];exact AA (h n st hB hn1 hn2 hsn dF.rfl')
 ·rw[aA (by simpa using hnn)];have hlt:=hor.resolve_left hnn;by_cases hgt:n > 1
  ·rw[bA hgt];refine pA (zO od hB h0 ⋯ ⋯ ?_);by_cases hrose:Kr rk (arrOf st) lo < Kr rk (arrOf st) (lo+n - 1)
   ·simp only[hrose,decide_true,PB];exact AA (h n st hB hn1 hn2 hsn dF.rfl')
   ·simp only[hrose,decide_false,IA,wB];have hsz:lo+n<=(arrOf st).size:=by rw[hB.size];omega
    have hall:∀k,lo<=k->k < lo+n->Kr rk (arrOf st) k=Kr rk (arrOf st) (lo+n - 1):=by
     intro k h1 hk;have a1:=hsn 0 (k - lo) ⋯ ⋯;have a2:=hsn (k - lo) (n - 1) ⋯ ⋯;rw[show lo+(k - lo)=k by omega] at a1 a2;rw[show lo+(n - 1)=lo+n - 1 by omega] at a2;rw[Nat.add_zero] at a1;omega
    refine pA (TR (k8 od h0 hn ⋯ (hB.set (mirror_perm _ _ _ _)) ?_ λm' st2 b1 b2 b3 b4 b5=>h m' st2 b1 b2 b3 b4 ((SR hsz (iA _) ⋯).trans b5)));intro i j hij hj;show Kr rk (mirror (arrOf st) _ _ _) (lo+j)<=Kr rk (mirror (arrOf st) _ _ _) (lo+i);rw[AO hsz hall,AO hsz hall];by_cases hjn:j < n
    ·rw[hall (lo+i) ⋯ ⋯,hall (lo+j) ⋯ ⋯];exact aB _
    ·have hj':j=n:=⋯;subst hj';by_cases hi':i=j
     ·subst hi';exact aB _
     ·rw[hall (lo+i) ⋯ ⋯];exact FB hlt
  ·rw[aA hgt];have hn1':n=1:=⋯;subst hn1';refine k8 od h0 hn ⋯ hB ?_ h;intro i j hij hj;by_cases hi':i=j
   ·subst hi';exact aB _
   ·have hi0:i=0:=⋯;have hj1:j=1:=⋯;subst hi0;subst hj1;exact FB hlt
end
noncomputable def hE:Bool->Keyed->Array Keyed->Nat->Nat->Nat->StateT SortSt Sem (Option Nat):=sortPriv% PySem.Builtin.gallop
noncomputable def QG (left:Bool) (key:Keyed) (arr:Array Keyed) (base i:Nat):StateT SortSt Sem (Option Bool):=do
 let x<-elem' arr (base+i)
 if left then lt' x key else return (<-lt' key x).map (!·)
theorem Xi (left:Bool) (key:Keyed) (arr:Array Keyed) (base n hint:Nat):hE left key arr base n hint=(do
 let mut lastofs:=0
 let mut ofs:=1
 let mut lo:=0
 let mut hi:=0
 let some right<-QG left key arr base hint|return none
 if right then
  let maxofs:=n - hint
  for _ in [0:n] do
   if ofs>=maxofs then break
   let some more<-QG left key arr base (hint+ofs)|return none
   if !more then break
   lastofs:=ofs
   ofs:=2 * ofs+1
  lo:=hint+lastofs+1
  hi:=hint+min ofs maxofs
 else
  let maxofs:=hint+1
  for _ in [0:n] do
   if ofs>=maxofs then break
   let some found<-QG left key arr base (hint - ofs)|return none
   if found then break
   lastofs:=ofs
   ofs:=2 * ofs+1
  lo:=hint+1 - min ofs maxofs
  hi:=hint - lastofs
 for _ in [0:n] do
  if lo>=hi then break
  let m:=lo+(hi - lo) / 2
  let some more<-QG left key arr base m|return none
  if more then lo:=m+1 else hi:=m
 return some hi):=rfl
noncomputable def bB (rk:Keyed->Int) (left:Bool) (key:Keyed) (arr:Array Keyed) (base i:Nat):Bool:=if left=true then decide (Kr rk arr (base+i) < rk key) else !decide (rk key < Kr rk arr (base+i))
section
variable {M:Model} {A:Around} {E:Value->Shared->Prop} {s:Shared} {a₀:Array Keyed} {kd:SortKind} {pd:Array (Nat×Nat×Nat)} {Ok:Keyed->Prop} {rk:Keyed->Int}
theorem sL {left:Bool} {key:Keyed} {arr:Array Keyed} {base i:Nat} {st:SortSt} {p:Keyed} {Q:Option Bool->SortSt->Prop} (od:Od kd Ok rk M A E s) (hk:kindOf st=kd) (ok:Ok key) (hp:arr[base+i]?=some p) (op:Ok p)
  (q:Q (some (bB rk left key arr base i)) st):wpS M A E s (QG left key arr base i) Q st:=by
 unfold QG;refine pA (LF hp ?_);unfold bB at q;rw[VF hp] at q;cases left with
 |true=>
  rw[bA rfl] at q ⊢;exact od st p key Q hk op ok q
 |false=>
  rw[aA nA] at q ⊢;exact pA (od st key p _ hk ok op (AA q))
theorem Yi {left:Bool} {key:Keyed} {arr:Array Keyed} {base n i j:Nat} (hs:VE rk arr base n) (hij:i<=j) (hj:j < n) (h:bB rk left key arr base j=true):bB rk left key arr base i=true:=by
 have:=hs i j hij hj;unfold bB at h ⊢;cases left with
 |true=>
  rw[bA rfl] at h ⊢;have h:=OB h;exact kA ⋯
 |false=>
  rw[aA nA] at h ⊢;have h:decide (rk key < Kr rk arr (base+j))=false:=by simpa using h
  have h:=SB h;rw[yA ⋯]
  rfl
theorem UM {left:Bool} {key:Keyed} {arr:Array Keyed} {base n hint:Nat} {st:SortSt} {Q:Option Nat->SortSt->Prop} (od:Od kd Ok rk M A E s) (hk:kindOf st=kd) (ok:Ok key) (hok:∀i,i < n->∃p,arr[base+i]?=some p/\Ok p) (hs:VE rk arr base n) (hh:hint < n)
  (q:∀k,k<=n->(∀i,i < k->bB rk left key arr base i=true)->(∀i,k<=i->i < n->bB rk left key arr base i=false)->Q (some k) st):wpS M A E s (hE left key arr base n hint) Q st:=by
 have by_:∀(i:Nat) (R:Option Bool->SortSt->Prop),i < n->R (some (bB rk left key arr base i)) st->wpS M A E s (QG left key arr base i) R st:=λi R hi r=>by
  obtain⟨p,hp,op⟩:=hok i hi;exact sL od hk ok hp op r
 have mono:∀i j,i<=j->j < n->bB rk left key arr base j=true->bB rk left key arr base i=true:=λi j h1 h2 h3=>Yi hs h1 h2 h3;have nmono:∀i j,i<=j->j < n->bB rk left key arr base i=false->bB rk left key arr base j=false:=λi j h1 h2 h3=>by
  cases e:bB rk left key arr base j with
  |false=>rfl
  |true=>rw[mono i j h1 h2 e] at h3;cases h3
 generalize hB:bB rk left key arr base=B at *;rw[Xi];refine pA (by_ hint _ hh ?_);cases e:B hint with
 |true=>
  simp only[PB];refine pA (DB (sB (I:=λx c st'=>st'=st/\∃l o,c=(none,l,o)/\l < o/\hint+l < n/\B (hint+l)=true/\x+1<=o)
   (Q:=λc st'=>st'=st/\∃l o,c=(none,l,o)/\l < o/\hint+l < n/\B (hint+l)=true/\(n - hint<=o\/(hint+o < n/\B (hint+o)=false))) ?step ?fin ?init) ?post)
  case init=>exact⟨rfl,0,1,rfl,⋯,⋯,e,⋯⟩
  case fin=>
   rintro c st' ⟨rfl,l,o,rfl,a1,a2,a3,a4⟩;exact⟨rfl,l,o,rfl,a1,a2,a3,.inl ⋯⟩
  case step=>
   rintro x c st' _ hx ⟨rfl,l,o,rfl,a1,a2,a3,a4⟩;dsimp only;by_cases c:o>=n - hint
   ·rw[bA c];exact AA ⟨rfl,l,o,rfl,a1,a2,a3,.inl c⟩
   ·rw[aA c];refine pA (by_ _ _ ⋯ ?_);cases e2:B (hint+o) with
    |true=>
     simp only[Bool.not_true,IA,wB];exact AA ⟨rfl,o,2 * o+1,rfl,⋯,⋯,e2,⋯⟩
    |false=>
     simp only[Bool.not_false,PB];exact AA ⟨rfl,l,o,rfl,a1,a2,a3,.inr ⟨⋯,e2⟩⟩
  case post=>
   rintro c st2 ⟨e9,l,o,rfl,a1,a2,a3,a4⟩;rw[e9];dsimp only;have h1:hint+l+1<=hint+min o (n - hint):=⋯;have h2:hint+min o (n - hint)<=n:=⋯;have h3:∀i,i < hint+l+1->B i=true:=λi hi=>mono i _ ⋯ a2 a3;have h4:∀i,hint+min o (n - hint)<=i->i < n->B i=false:=λi h1 h2=>by
    rcases a4 with a4|⟨a4,a5⟩
    ·omega
    ·exact nmono (hint+o) i ⋯ h2 a5
   generalize hint+l+1=lo at *;generalize hint+min o (n - hint)=hi at *;refine pA (DB (sB (I:=λx c st'=>st'=st/\∃lo hi,c=(none,lo,hi)/\lo<=hi/\hi<=n/\hi - lo<=n - x/\(∀i,i < lo->B i=true)/\(∀i,hi<=i->i < n->B i=false))
    (Q:=λc st'=>st'=st/\∃hi,c=(none,hi,hi)/\hi<=n/\(∀i,i < hi->B i=true)/\(∀i,hi<=i->i < n->B i=false)) ?step ?fin ?init) ?post)
   case init=>exact⟨rfl,lo,hi,rfl,h1,h2,⋯,h3,h4⟩
   case fin=>
    rintro c st' ⟨rfl,lo,hi,rfl,a1,a2,a3,a4,a5⟩;have:lo=hi:=⋯;subst this;exact⟨rfl,lo,rfl,a2,a4,a5⟩
   case post=>
    rintro c st' ⟨rfl,hi,rfl,a2,a4,a5⟩;exact AA (q hi a2 a4 a5)
   case step=>
    rintro x c st' _ hx ⟨rfl,lo,hi,rfl,a1,a2,a3,a4,a5⟩;dsimp only;by_cases c:lo>=hi
    ·rw[bA c];have:lo=hi:=⋯;subst this;exact AA ⟨rfl,lo,rfl,a2,a4,a5⟩
    ·rw[aA c];refine pA (by_ _ _ ⋯ ?_);cases e:B (lo+(hi - lo) / 2) with
     |true=>
      simp only[PB];exact AA ⟨rfl,_,hi,rfl,⋯,a2,⋯,λi hi'=>mono i _ ⋯ ⋯ e,a5⟩
     |false=>
      simp only[IA,wB];exact AA ⟨rfl,lo,_,rfl,⋯,⋯,⋯,a4,λi h1 h2=>nmono _ i h1 h2 e⟩
 |false=>
  simp only[IA,wB];refine pA (DB (sB (I:=λx c st'=>st'=st/\∃l o,c=(none,l,o)/\l < o/\l<=hint/\B (hint - l)=false/\x+1<=o)
   (Q:=λc st'=>st'=st/\∃l o,c=(none,l,o)/\l < o/\l<=hint/\B (hint - l)=false/\(hint+1<=o\/(o<=hint/\B (hint - o)=true))) ?step ?fin ?init) ?post)
  case init=>exact⟨rfl,0,1,rfl,⋯,⋯,e,⋯⟩
  case fin=>
   rintro c st' ⟨rfl,l,o,rfl,a1,a2,a3,a4⟩;exact⟨rfl,l,o,rfl,a1,a2,a3,.inl ⋯⟩
  case step=>
   rintro x c st' _ hx ⟨rfl,l,o,rfl,a1,a2,a3,a4⟩;dsimp only;by_cases c:o>=hint+1
   ·rw[bA c];exact AA ⟨rfl,l,o,rfl,a1,a2,a3,.inl c⟩
   ·rw[aA c];refine pA (by_ _ _ ⋯ ?_);cases e2:B (hint - o) with
    |true=>
     simp only[PB];exact AA ⟨rfl,l,o,rfl,a1,a2,a3,.inr ⟨⋯,e2⟩⟩
    |false=>
     simp only[IA,wB];exact AA ⟨rfl,o,2 * o+1,rfl,⋯,⋯,e2,⋯⟩
  case post=>
   rintro c st2 ⟨e9,l,o,rfl,a1,a2,a3,a4⟩;rw[e9];dsimp only;have h1:hint+1 - min o (hint+1)<=hint - l:=⋯;have h2:hint - l<=n:=⋯;have h3:∀i,i < hint+1 - min o (hint+1)->B i=true:=λi hi=>by
    rcases a4 with a4|⟨a4,a5⟩
    ·omega
    ·exact mono i (hint - o) ⋯ ⋯ a5
   have h4:∀i,hint - l<=i->i < n->B i=false:=λi h1 h2=>nmono (hint - l) i ⋯ h2 a3;generalize hint+1 - min o (hint+1)=lo at *;generalize hint - l=hi at *;refine pA (DB (sB (I:=λx c st'=>st'=st/\∃lo hi,c=(none,lo,hi)/\lo<=hi/\hi<=n/\hi - lo<=n - x/\(∀i,i < lo->B i=true)/\(∀i,hi<=i->i < n->B i=false))
    (Q:=λc st'=>st'=st/\∃hi,c=(none,hi,hi)/\hi<=n/\(∀i,i < hi->B i=true)/\(∀i,hi<=i->i < n->B i=false)) ?step ?fin ?init) ?post)
   case init=>exact⟨rfl,lo,hi,rfl,h1,h2,⋯,h3,h4⟩
   case fin=>
    rintro c st' ⟨rfl,lo,hi,rfl,a1,a2,a3,a4,a5⟩;have:lo=hi:=⋯;subst this;exact⟨rfl,lo,rfl,a2,a4,a5⟩
   case post=>
    rintro c st' ⟨rfl,hi,rfl,a2,a4,a5⟩;exact AA (q hi a2 a4 a5)
   case step=>
    rintro x c st' _ hx ⟨rfl,lo,hi,rfl,a1,a2,a3,a4,a5⟩;dsimp only;by_cases c:lo>=hi
    ·rw[bA c];have:lo=hi:=⋯;subst this;exact AA ⟨rfl,lo,rfl,a2,a4,a5⟩
    ·rw[aA c];refine pA (by_ _ _ ⋯ ?_);cases e:B (lo+(hi - lo) / 2) with
     |true=>
      simp only[PB];exact AA ⟨rfl,_,hi,rfl,⋯,a2,⋯,λi hi'=>mono i _ ⋯ ⋯ e,a5⟩
     |false=>
      simp only[IA,wB];exact AA ⟨rfl,lo,_,rfl,⋯,⋯,⋯,a4,λi h1 h2=>nmono _ i h1 h2 e⟩
end
noncomputable def NF:Array Keyed->Array Keyed->StateT SortSt Sem (Array Keyed):=sortPriv% PySem.Builtin.mergeLo
noncomputable def aI (g:Nat):StateT SortSt Sem Unit:=modify λs=>SortSt.mk' (kindOf s) (arrOf s) (pendingOf s) g (failedOf s)
noncomputable abbrev T6:=Option (Array Keyed)×Array Keyed×Nat×Nat×Nat×Nat
noncomputable abbrev T7:=Option (Array Keyed)×Array Keyed×Nat×Nat×Nat×Nat×Nat
noncomputable abbrev T5:=Option (Array Keyed)×Array Keyed×Nat×Nat×Nat
noncomputable def UR (a b:Array Keyed) (out:Array Keyed) (ia ib g k k1:Nat):StateT SortSt Sem (ForInStep T7):=do
 let x<-elem' a ia
 if (ia+1+1 == a.size)=true then pure (ForInStep.done (some (out.push x++b.extract ib b.size++a.extract (ia+1) a.size),out.push x,ia+1,ib,g,k,k1))
 else if (decide (k < 7)&&decide (k1 < 7))=true then pure (ForInStep.done (none,out.push x,ia+1,ib,g,k,k1))
 else pure (ForInStep.yield (none,out.push x,ia+1,ib,g,k,k1))
noncomputable def VR (a b:Array Keyed) (out:Array Keyed) (ia ib g k bc:Nat):StateT SortSt Sem (ForInStep T7):=do
 let y<-elem' b ib
 if (ib+1 == b.size)=true then pure (ForInStep.done (some (out.push y++a.extract ia a.size++b.extract (ib+1) b.size),out.push y,ia,ib+1,g,k,bc))
 else do
  let x<-elem' a ia
  let r<-hE true x b (ib+1) (b.size - (ib+1)) 0
  match r with
  |some k1=>
   if k1 > 0 then
    if (ib+1+k1 == b.size)=true then pure (ForInStep.done (some (out.push y++b.extract (ib+1) (ib+1+k1)++a.extract ia a.size++b.extract (ib+1+k1) b.size),out.push y++b.extract (ib+1) (ib+1+k1),ia,ib+1+k1,g,k,k1))
    else UR a b (out.push y++b.extract (ib+1) (ib+1+k1)) ia (ib+1+k1) g k k1
   else UR a b (out.push y) ia (ib+1) g k k1
  |_=>pure (ForInStep.done (some (out.push y++a.extract ia a.size++b.extract (ib+1) b.size),out.push y,ia,ib+1,g,k,bc))
noncomputable def BO (a b:Array Keyed) (out:Array Keyed) (ia ib g ac bc:Nat):StateT SortSt Sem (ForInStep T7):=do
 aI g
 let y<-elem' b ib
 let r<-hE false y a ia (a.size - ia) 0
 match r with
 |some k=>
  if k > 0 then
   if (ia+k+1 == a.size)=true then pure (ForInStep.done (some (out++a.extract ia (ia+k)++b.extract ib b.size++a.extract (ia+k) a.size),out++a.extract ia (ia+k),ia+k,ib,g,k,bc))
   else if (ia+k == a.size)=true then pure (ForInStep.done (some (out++a.extract ia (ia+k)++a.extract (ia+k) a.size++b.extract ib b.size),out++a.extract ia (ia+k),ia+k,ib,g,k,bc))
   else VR a b (out++a.extract ia (ia+k)) (ia+k) ib g k bc
  else VR a b out ia ib g k bc
 |_=>pure (ForInStep.done (some (out++a.extract ia a.size++b.extract ib b.size),out,ia,ib,g,ac,bc))
noncomputable def uU (a b:Array Keyed) (mg:Nat) (s:T6):StateT SortSt Sem (ForInStep T6):=do
 let y<-elem' b s.snd.snd.snd.fst
 let x<-elem' a s.snd.snd.fst
 let r<-lt' y x
 match r with
 |some bw=>
  if bw=true then do
   let y<-elem' b s.snd.snd.snd.fst
   if (s.snd.snd.snd.fst+1 == b.size)=true then pure (ForInStep.done (some (s.snd.fst.push y++a.extract s.snd.snd.fst a.size++b.extract (s.snd.snd.snd.fst+1) b.size),s.snd.fst.push y,s.snd.snd.fst,s.snd.snd.snd.fst+1,0,s.snd.snd.snd.snd.snd+1))
   else if s.snd.snd.snd.snd.snd+1>=mg then pure (ForInStep.done (none,s.snd.fst.push y,s.snd.snd.fst,s.snd.snd.snd.fst+1,0,s.snd.snd.snd.snd.snd+1))
   else pure (ForInStep.yield (none,s.snd.fst.push y,s.snd.snd.fst,s.snd.snd.snd.fst+1,0,s.snd.snd.snd.snd.snd+1))
  else do
   let x<-elem' a s.snd.snd.fst
   if (s.snd.snd.fst+1+1 == a.size)=true then pure (ForInStep.done (some (s.snd.fst.push x++b.extract s.snd.snd.snd.fst b.size++a.extract (s.snd.snd.fst+1) a.size),s.snd.fst.push x,s.snd.snd.fst+1,s.snd.snd.snd.fst,s.snd.snd.snd.snd.fst+1,0))
   else if s.snd.snd.snd.snd.fst+1>=mg then pure (ForInStep.done (none,s.snd.fst.push x,s.snd.snd.fst+1,s.snd.snd.snd.fst,s.snd.snd.snd.snd.fst+1,0))
   else pure (ForInStep.yield (none,s.snd.fst.push x,s.snd.snd.fst+1,s.snd.snd.snd.fst,s.snd.snd.snd.snd.fst+1,0))
 |_=>pure (ForInStep.done (some (s.snd.fst++a.extract s.snd.snd.fst a.size++b.extract s.snd.snd.snd.fst b.size),s.snd.fst,s.snd.snd.fst,s.snd.snd.snd.fst,s.snd.snd.snd.snd.fst,s.snd.snd.snd.snd.snd))
noncomputable def l8 (a b:Array Keyed) (s:T7):StateT SortSt Sem (ForInStep T7):=
 if s.snd.snd.snd.snd.fst > 1 then BO a b s.snd.fst s.snd.snd.fst s.snd.snd.snd.fst (s.snd.snd.snd.snd.fst - 1) s.snd.snd.snd.snd.snd.fst s.snd.snd.snd.snd.snd.snd
 else BO a b s.snd.fst s.snd.snd.fst s.snd.snd.snd.fst s.snd.snd.snd.snd.fst s.snd.snd.snd.snd.snd.fst s.snd.snd.snd.snd.snd.snd
noncomputable def m8 (a b:Array Keyed) (s:T5):StateT SortSt Sem (ForInStep T5):=do
 let t<-forIn [0:a.size+b.size] ((none,s.snd.fst,s.snd.snd.fst,s.snd.snd.snd.fst,0,0):T6) λο t=>uU a b s.snd.snd.snd.snd t
 match t.fst with
 |some r=>pure (ForInStep.done (some r,t.snd.fst,t.snd.snd.fst,t.snd.snd.snd.fst,s.snd.snd.snd.snd))
 |none=>do
  liftM (rule "list.sort.gallop")
  let u<-forIn [0:a.size+b.size] ((none,t.snd.fst,t.snd.snd.fst,t.snd.snd.snd.fst,s.snd.snd.snd.snd+1,t.snd.snd.snd.snd.fst,t.snd.snd.snd.snd.snd):T7) λο u=>l8 a b u
  match u.fst with
  |some r=>pure (ForInStep.done (some r,u.snd.fst,u.snd.snd.fst,u.snd.snd.snd.fst,u.snd.snd.snd.snd.fst))
  |none=>do
   aI (u.snd.snd.snd.snd.fst+1)
   pure (ForInStep.yield (none,u.snd.fst,u.snd.snd.fst,u.snd.snd.snd.fst,u.snd.snd.snd.snd.fst+1))
theorem Zi (a b:Array Keyed):NF a b=(do
 rule "list.sort.merge-lo"
 let y<-elem' b 0
 if (1 == b.size)=true then pure (#[y]++a.extract 0 a.size++b.extract 1 b.size)
 else if (0+1 == a.size)=true then pure (#[y]++b.extract 1 b.size++a.extract 0 a.size)
 else do
  let st<-get
  let t<-forIn [0:a.size+b.size] ((none, #[y],0,1,gallopOf st):T5) λο t=>m8 a b t
  match t.fst with
  |some r=>pure r
  |none=>unsupported "internal:list.sort.merge-bound"):=by kernel_rfl
noncomputable abbrev Up (rk:Keyed->Int) (l:List Keyed):Prop:=l.Pairwise λx y=>rk x<=rk y
structure MI (rk:Keyed->Int) (la lb ol:List Keyed) (ia ib:Nat):Prop where
 pm:(ol++la.drop ia++lb.drop ib).Perm (la++lb)
 so:Up rk ol
 oa:∀x∈ol,∀y∈la.drop ia,rk x<=rk y
 ob:∀x∈ol,∀y∈lb.drop ib,rk x<=rk y
theorem CO {α:Type} {l:List α} {i:Nat} {x:α} (h:l[i]?=some x):l.drop i=x::l.drop (i+1):=by
 obtain⟨h1,h2⟩:=LA.mp h;rw[<-h2];exact List.drop_eq_getElem_cons h1
theorem YI {rk:Keyed->Int} {l:List Keyed} {i:Nat} {x:Keyed} (hu:Up rk l) (h:l[i]?=some x):∀y∈l.drop i,rk x<=rk y:=λy hy=>by
 have hu2:Up rk (l.drop i):=hu.sublist (List.drop_sublist i l);rw[CO h] at hu2 hy;rcases wA.mp hy with rfl|hy
 ·exact aB _
 ·exact (List.pairwise_cons.mp hu2).1 y hy
section
variable {rk:Keyed->Int} {la lb ol:List Keyed} {ia ib:Nat} {x y:Keyed}
theorem MI.pushA (h:MI rk la lb ol ia ib) (ha:Up rk la) (hb:Up rk lb) (hx:la[ia]?=some x) (hy:∀y∈lb.drop ib,rk x<=rk y):MI rk la lb (ol++[x]) (ia+1) ib:=by
 have hd:=CO hx;have hxa:=YI ha hx;refine⟨?_,?_,?_,?_⟩
 ·have:=h.pm;rw[hd] at this;simpa[vA] using this
 ·refine DA.mpr ⟨h.so,List.pairwise_singleton .., λz hz w hw=>?_⟩;rw[gA.mp hw];exact h.oa z hz x (by rw[hd];exact cA ..)
 ·intro z hz w hw;rcases rA.mp hz with hz|hz
  ·exact h.oa z hz w (by rw[hd];exact fA _ hw)
  ·rw[gA.mp hz];exact hxa w (by rw[hd];exact fA _ hw)
 ·intro z hz w hw;rcases rA.mp hz with hz|hz
  ·exact h.ob z hz w hw
  ·rw[gA.mp hz];exact hy w hw
theorem MI.pushB (h:MI rk la lb ol ia ib) (ha:Up rk la) (hb:Up rk lb) (hy:lb[ib]?=some y) (hx:∀x∈la.drop ia,rk y<=rk x):MI rk la lb (ol++[y]) ia (ib+1):=by
 have hd:=CO hy;have hyb:=YI hb hy;refine⟨?_,?_,?_,?_⟩
 ·have:=h.pm;rw[hd] at this;refine List.Perm.trans ?_ this;rw[vA,vA,vA];refine List.Perm.append_left _ ?_;exact (List.perm_middle (a:=y) (l₁:=la.drop ia) (l₂:=lb.drop (ib+1))).symm
 ·refine DA.mpr ⟨h.so,List.pairwise_singleton .., λz hz w hw=>?_⟩;rw[gA.mp hw];exact h.ob z hz y (by rw[hd];exact cA ..)
 ·intro z hz w hw;rcases rA.mp hz with hz|hz
  ·exact h.oa z hz w hw
  ·rw[gA.mp hz];exact hx w hw
 ·intro z hz w hw;rcases rA.mp hz with hz|hz
  ·exact h.ob z hz w (by rw[hd];exact fA _ hw)
  ·rw[gA.mp hz];exact hyb w (by rw[hd];exact fA _ hw)
theorem WR {l:List Keyed} {i k:Nat} {x:Keyed} (h:l[i+k]?=some x):(l.drop i).take (k+1)=(l.drop i).take k++[x]:=by
 rw[xB,List.getElem?_drop,h];rfl
theorem MI.blkA (ha:Up rk la) (hb:Up rk lb) (h:MI rk la lb ol ia ib):∀k,ia+k<=la.length->(∀i,i < k->∀x,la[ia+i]?=some x->∀y∈lb.drop ib,rk x<=rk y)->MI rk la lb (ol++(la.drop ia).take k) (ia+k) ib
 |0,_,_=>by rw[fC,IB];exact h
 |k+1,hk,hy=>by
  have ih:=MI.blkA ha hb h k ⋯ λi hi=>hy i ⋯;obtain⟨x,hx⟩:∃x,la[ia+k]?=some x:=⟨_,zA ⋯⟩
  rw[WR hx,<-vA];exact ih.pushA ha hb hx (hy k ⋯ x hx)
theorem MI.blkB (ha:Up rk la) (hb:Up rk lb) (h:MI rk la lb ol ia ib):∀k,ib+k<=lb.length->(∀i,i < k->∀y,lb[ib+i]?=some y->∀x∈la.drop ia,rk y<=rk x)->MI rk la lb (ol++(lb.drop ib).take k) ia (ib+k)
 |0,_,_=>by rw[fC,IB];exact h
 |k+1,hk,hx=>by
  have ih:=MI.blkB ha hb h k ⋯ λi hi=>hx i ⋯;obtain⟨y,hy⟩:∃y,lb[ib+k]?=some y:=⟨_,zA ⋯⟩
  rw[WR hy,<-vA];exact ih.pushB ha hb hy (hx k ⋯ y hy)
noncomputable def SE (rk:Keyed->Int) (la lb:List Keyed) (r:Array Keyed):Prop:=r.toList.Perm (la++lb)/\Up rk r.toList
theorem YR {a:Array Keyed} {i k:Nat}:(a.extract i (i+k)).toList=(a.toList.drop i).take k:=by
 rw[Array.toList_extract];show ((a.toList.drop i).take (i+k - i))=_;rw[show i+k - i=k by omega]
theorem ZR {a:Array Keyed} {i:Nat}:(a.extract i a.size).toList=a.toList.drop i:=by
 rw[Array.toList_extract];show ((a.toList.drop i).take (a.size - i))=_;exact MB (by rw[GB,EA];exact iA _)
theorem MI.endB {a b out:Array Keyed} (h:MI rk a.toList b.toList out.toList ia ib) (ha:Up rk a.toList) (hb:Up rk b.toList) (hd:ib=b.size\/ia=a.size):SE rk a.toList b.toList (out++a.extract ia a.size++b.extract ib b.size):=by
 unfold SE;rw[pB,pB,ZR,ZR];refine⟨h.pm,?_⟩;have sa:Up rk (a.toList.drop ia):=ha.sublist (List.drop_sublist _ _);have sb:Up rk (b.toList.drop ib):=hb.sublist (List.drop_sublist _ _);rw[vA];refine DA.mpr ⟨h.so,DA.mpr ⟨sa,sb,?_⟩,λx hx y hy=>?_⟩
 ·intro x hx y hy;rcases hd with rfl|rfl
  ·rw[List.drop_of_length_le (by rw[EA];exact iA _)] at hy;cases hy
  ·rw[List.drop_of_length_le (by rw[EA];exact iA _)] at hx;cases hx
 ·rcases rA.mp hy with hy|hy
  ·exact h.oa x hx y hy
  ·exact h.ob x hx y hy
theorem MI.endL {a b out:Array Keyed} (h:MI rk a.toList b.toList out.toList ia ib) (ha:Up rk a.toList) (hb:Up rk b.toList) (hl:∀x∈a.toList.drop ia,∀y∈b.toList,rk y<=rk x):SE rk a.toList b.toList (out++b.extract ib b.size++a.extract ia a.size):=by
 unfold SE;rw[pB,pB,ZR,ZR];have sa:Up rk (a.toList.drop ia):=ha.sublist (List.drop_sublist _ _);have sb:Up rk (b.toList.drop ib):=hb.sublist (List.drop_sublist _ _);constructor
 ·refine List.Perm.trans ?_ h.pm;rw[vA,vA];exact List.Perm.append_left _ List.perm_append_comm
 ·rw[vA];refine DA.mpr ⟨h.so,DA.mpr ⟨sb,sa,λx hx y hy=>hl y hy x (List.mem_of_mem_drop hx)⟩,λx hx y hy=>?_⟩;rcases rA.mp hy with hy|hy
  ·exact h.ob x hx y hy
  ·exact h.oa x hx y hy
end
noncomputable def Sk (st st':SortSt):Prop:=arrOf st'=arrOf st/\kindOf st'=kindOf st/\failedOf st'=failedOf st/\pendingOf st'=pendingOf st
theorem Sk.refl (st:SortSt):Sk st st:=⟨rfl,rfl,rfl,rfl⟩
theorem Sk.trans {s1 s2 s3:SortSt} (h:Sk s1 s2) (g:Sk s2 s3):Sk s1 s3:=⟨g.1.trans h.1,g.2.1.trans h.2.1,g.2.2.1.trans h.2.2.1,g.2.2.2.trans h.2.2.2⟩
theorem aS {M:Model} {A:Around} {E:Value->Shared->Prop} {s:Shared} {g:Nat} {st:SortSt} {Q:Unit->SortSt->Prop} (h:∀st',Sk st st'->Q () st'):wpS M A E s (aI g) Q st:=wpS_modify (h _ ⟨rfl,rfl,rfl,rfl⟩)
theorem bS {rk:Keyed->Int} {a:Array Keyed} (h:Up rk a.toList) {i n:Nat} (hn:i+n<=a.size):VE rk a i n:=λj k hjk hk=>by
 have h1:i+j < a.toList.length:=by rw[EA];omega
 have h2:i+k < a.toList.length:=by rw[EA];omega
 have e1:Kr rk a (i+j)=rk a.toList[i+j]:=VF (by rw[<-MA];exact zA h1);have e2:Kr rk a (i+k)=rk a.toList[i+k]:=VF (by rw[<-MA];exact zA h2);rw[e1,e2];by_cases c:j=k
 ·subst c;exact aB _
 ·exact List.pairwise_iff_getElem.mp h (i+j) (i+k) h1 h2 ⋯
section
variable {M:Model} {A:Around} {E:Value->Shared->Prop} {s:Shared} {kd:SortKind} {Ok:Keyed->Prop} {rk:Keyed->Int} {a b:Array Keyed}
structure Pr (rk:Keyed->Int) (Ok:Keyed->Prop) (a b:Array Keyed):Prop where
 ua:Up rk a.toList
 ub:Up rk b.toList
 oa:∀x∈a.toList,Ok x
 ob:∀x∈b.toList,Ok x
 lst:∀x,a[a.size - 1]?=some x->∀y∈b.toList,rk y < rk x
 fst:∀y,b[0]?=some y->∀x∈a.toList,rk y < rk x
 na:0 < a.size
 nb:0 < b.size
noncomputable def Gd (rk:Keyed->Int) (a b:Array Keyed) (p:Nat) (ret:Option (Array Keyed)) (out:Array Keyed) (ia ib:Nat):Prop:=match ret with
 |some r=>SE rk a.toList b.toList r
 |none=>MI rk a.toList b.toList out.toList ia ib/\ia+1 < a.size/\ib < b.size/\p<=ia+ib
noncomputable def cS (rk:Keyed->Int) (a b:Array Keyed) (p:Nat) (c:T7):Prop:=Gd rk a b p c.1 c.2.1 c.2.2.1 c.2.2.2.1
noncomputable def VM (rk:Keyed->Int) (a b:Array Keyed) (p:Nat) (st:SortSt) (r:ForInStep T7) (st':SortSt):Prop:=Sk st st'/\match r with
 |.done c=>cS rk a b p c
 |.yield c=>c.1=none/\cS rk a b p c
theorem at_ {a:Array Keyed} {i:Nat} (h:i < a.size):∃x,a[i]?=some x/\a.toList[i]?=some x/\x∈a.toList:=by
 refine⟨a[i],Array.getElem?_eq_getElem h,?_,by simp⟩;rw[MA];exact Array.getElem?_eq_getElem h
theorem dS (pr:Pr rk Ok a b) {ia:Nat} (h:ia+1=a.size):∀x∈a.toList.drop ia,∀y∈b.toList,rk y<=rk x:=λx hx y hy=>by
 obtain⟨z,h1,h2,_⟩:=at_ (a:=a) (i:=ia) ⋯;have hd2:a.toList.drop (ia+1)=[]:=List.drop_of_length_le (by rw[EA];omega);rw[CO h2,hd2] at hx;rw[gA.mp hx];exact FB (pr.lst z (by rw[show a.size - 1=ia by omega];exact h1) y hy)
theorem LJ (pr:Pr rk Ok a b) {out:Array Keyed} {ia ib g k k1 p:Nat} {st:SortSt} (h:MI rk a.toList b.toList out.toList ia ib) (hia:ia+1 < a.size) (hib:ib < b.size) (hx:∀x,a[ia]?=some x->∀y∈b.toList.drop ib,rk x<=rk y) (hp:p<=ia+1+ib):
  wpS M A E s (UR a b out ia ib g k k1) (VM rk a b p st) st:=by
 unfold UR;obtain⟨x,e1,e2,_⟩:=at_ (a:=a) (i:=ia) ⋯;refine pA (LF e1 ?_);have h2:MI rk a.toList b.toList (out.push x).toList (ia+1) ib:=by
  rw[iC];exact h.pushA pr.ua pr.ub e2 (hx x e1)
 by_cases c:ia+1+1=a.size
 ·rw[bA (by simpa using c)];exact AA ⟨Sk.refl _,h2.endL pr.ua pr.ub (dS pr c)⟩
 ·rw[aA (by simpa using c)];have hg:Gd rk a b p none (out.push x) (ia+1) ib:=⟨h2,⋯,hib,⋯⟩
  split
  ·exact AA ⟨Sk.refl _,hg⟩
  ·exact AA ⟨Sk.refl _,rfl,hg⟩
theorem MJ (od:Od kd Ok rk M A E s) (pr:Pr rk Ok a b) {out:Array Keyed} {ia ib g k bc p:Nat} {st:SortSt} (hk:kindOf st=kd) (h:MI rk a.toList b.toList out.toList ia ib) (hia:ia+1 < a.size) (hib:ib < b.size) (hy:∀y,b[ib]?=some y->∀x∈a.toList.drop ia,rk y<=rk x) (hp:p<=ia+ib+1):
  wpS M A E s (VR a b out ia ib g k bc) (VM rk a b p st) st:=by
 unfold VR;obtain⟨y,f1,f2,f3⟩:=at_ (a:=b) (i:=ib) hib;obtain⟨x,e1,e2,e3⟩:=at_ (a:=a) (i:=ia) ⋯;refine pA (LF f1 ?_);have h2:MI rk a.toList b.toList (out.push y).toList ia (ib+1):=by
  rw[iC];exact h.pushB pr.ua pr.ub f2 (hy y f1)
 by_cases c:ib+1=b.size
 ·rw[bA (by simpa using c)];exact AA ⟨Sk.refl _,h2.endB pr.ua pr.ub (.inl c)⟩
 ·rw[aA (by simpa using c)];refine pA (LF e1 ?_);refine pA (UM od hk (pr.oa x e3) (λi hi=>?_) (bS pr.ub ⋯) ⋯ λk1 hk1 hlt hge=>?_)
  ·obtain⟨z,z1,_,z3⟩:=at_ (a:=b) (i:=ib+1+i) ⋯;exact⟨z,z1,pr.ob z z3⟩
  dsimp only;have hxd:=YI pr.ua e2;have h3:MI rk a.toList b.toList ((out.push y).toList++(b.toList.drop (ib+1)).take k1) ia (ib+1+k1):=by
   refine MI.blkB pr.ua pr.ub h2 k1 (by rw[EA];omega) λi hi z hz w hw=>?_;have:=hlt i hi;unfold bB at this;rw[bA rfl,VF (show b[ib+1+i]?=some z by rw[<-MA];exact hz)] at this;exact mB (FB (OB this)) (hxd w hw)
  have hnx:ib+1+k1 < b.size->∀x',a[ia]?=some x'->∀w∈b.toList.drop (ib+1+k1),rk x'<=rk w:=λhlt2 x' hx' w hw=>by
   rw[e1] at hx';cases hx';obtain⟨z,z1,z2,_⟩:=at_ (a:=b) (i:=ib+1+k1) hlt2;have:=hge k1 (iA _) ⋯;unfold bB at this;rw[bA rfl,VF z1] at this;have h9:=SB this;exact mB (Int.not_lt.mp h9) (YI pr.ub z2 w hw)
  by_cases ck:k1 > 0
  ·rw[bA ck];have h4:MI rk a.toList b.toList (out.push y++b.extract (ib+1) (ib+1+k1)).toList ia (ib+1+k1):=by rw[pB,YR];exact h3
   by_cases c2:ib+1+k1=b.size
   ·rw[bA (by simpa using c2)];exact AA ⟨Sk.refl _,h4.endB pr.ua pr.ub (.inl c2)⟩
   ·rw[aA (by simpa using c2)];exact LJ pr h4 hia ⋯ (hnx ⋯) ⋯
  ·rw[aA ck];have:k1=0:=⋯;subst this;exact LJ pr h2 hia ⋯ (hnx ⋯) ⋯
theorem DO (od:Od kd Ok rk M A E s) (pr:Pr rk Ok a b) {out:Array Keyed} {ia ib g ac bc p:Nat} {st:SortSt} (hk:kindOf st=kd) (h:MI rk a.toList b.toList out.toList ia ib) (hia:ia+1 < a.size) (hib:ib < b.size) (hp:p<=ia+ib+1):
  wpS M A E s (BO a b out ia ib g ac bc) (VM rk a b p st) st:=by
 unfold BO;refine pA (aS λst1 sk=>?_);have hk1:kindOf st1=kd:=by rw[sk.2.1];exact hk
 have up:∀r st',VM rk a b p st1 r st'->VM rk a b p st r st':=λr st' q=>⟨sk.trans q.1,q.2⟩
 refine DB ?_ up;obtain⟨y,f1,f2,f3⟩:=at_ (a:=b) (i:=ib) hib;refine pA (LF f1 ?_);refine pA (UM od hk1 (pr.ob y f3) (λi hi=>?_) (bS pr.ua ⋯) ⋯ λk hk2 hlt hge=>?_)
 ·obtain⟨z,z1,_,z3⟩:=at_ (a:=a) (i:=ia+i) ⋯;exact⟨z,z1,pr.oa z z3⟩
 dsimp only;have hyd:=YI pr.ub f2;have h3:MI rk a.toList b.toList (out.toList++(a.toList.drop ia).take k) (ia+k) ib:=by
  refine MI.blkA pr.ua pr.ub h k (by rw[EA];omega) λi hi z hz w hw=>?_;have:=hlt i hi;unfold bB at this;rw[aA nA,VF (show a[ia+i]?=some z by rw[<-MA];exact hz)] at this;have this:decide (rk y < rk z)=false:=by simpa using this
  exact mB (Int.not_lt.mp (SB this)) (hyd w hw)
 have hnx:ia+k < a.size->∀y',b[ib]?=some y'->∀w∈a.toList.drop (ia+k),rk y'<=rk w:=λhlt2 y' hy' w hw=>by
  rw[f1] at hy';cases hy';obtain⟨z,z1,z2,_⟩:=at_ (a:=a) (i:=ia+k) hlt2;have:=hge k (iA _) ⋯;unfold bB at this;rw[aA nA,VF z1] at this;have this:decide (rk y < rk z)=true:=by simpa using this
  exact mB (FB (OB this)) (YI pr.ua z2 w hw)
 by_cases ck:k > 0
 ·rw[bA ck];have h4:MI rk a.toList b.toList (out++a.extract ia (ia+k)).toList (ia+k) ib:=by rw[pB,YR];exact h3
  by_cases c:ia+k+1=a.size
  ·rw[bA (by simpa using c)];exact AA ⟨Sk.refl _,h4.endL pr.ua pr.ub (dS pr c)⟩
  ·rw[aA (by simpa using c)];by_cases c2:ia+k=a.size
   ·rw[bA (by simpa using c2)];exact AA ⟨Sk.refl _,h4.endB pr.ua pr.ub (.inr c2)⟩
   ·rw[aA (by simpa using c2)];exact MJ od pr hk1 h4 ⋯ hib (hnx ⋯) ⋯
 ·rw[aA ck];have:k=0:=⋯;subst this;exact MJ od pr hk1 h hia hib (hnx ⋯) ⋯
theorem EO (od:Od kd Ok rk M A E s) (pr:Pr rk Ok a b) {out:Array Keyed} {ia ib mg ac bc p:Nat} {st:SortSt} (hk:kindOf st=kd) (h:MI rk a.toList b.toList out.toList ia ib) (hia:ia+1 < a.size) (hib:ib < b.size) (hp:p<=ia+ib+1):
  wpS M A E s (uU a b mg (none,out,ia,ib,ac,bc)) (λr st'=>st'=st/\match r with
   |.done c=>Gd rk a b p c.1 c.2.1 c.2.2.1 c.2.2.2.1
   |.yield c=>c.1=none/\Gd rk a b p c.1 c.2.1 c.2.2.1 c.2.2.2.1) st:=by
 unfold uU;dsimp only;obtain⟨y,f1,f2,f3⟩:=at_ (a:=b) (i:=ib) hib;obtain⟨x,e1,e2,e3⟩:=at_ (a:=a) (i:=ia) ⋯;refine pA (LF f1 (pA (LF e1 (pA (od st y x _ hk (pr.ob y f3) (pr.oa x e3) ?_)))));dsimp only;have hyd:=YI pr.ub f2;have hxd:=YI pr.ua e2;by_cases hlt:rk y < rk x
 ·rw[kA hlt,bA rfl];refine pA (LF f1 ?_);have h2:MI rk a.toList b.toList (out.push y).toList ia (ib+1):=by
   rw[iC];exact h.pushB pr.ua pr.ub f2 λw hw=>mB (FB hlt) (hxd w hw)
  by_cases c:ib+1=b.size
  ·rw[bA (by simpa using c)];exact AA ⟨rfl,h2.endB pr.ua pr.ub (.inl c)⟩
  ·rw[aA (by simpa using c)];have hg:Gd rk a b p none (out.push y) ia (ib+1):=⟨h2,hia,⋯,⋯⟩
   split
   ·exact AA ⟨rfl,hg⟩
   ·exact AA ⟨rfl,rfl,hg⟩
 ·rw[yA hlt,aA nA];refine pA (LF e1 ?_);have h2:MI rk a.toList b.toList (out.push x).toList (ia+1) ib:=by
   rw[iC];exact h.pushA pr.ua pr.ub e2 λw hw=>mB (Int.not_lt.mp hlt) (hyd w hw)
  by_cases c:ia+1+1=a.size
  ·rw[bA (by simpa using c)];exact AA ⟨rfl,h2.endL pr.ua pr.ub (dS pr c)⟩
  ·rw[aA (by simpa using c)];have hg:Gd rk a b p none (out.push x) (ia+1) ib:=⟨h2,⋯,hib,⋯⟩
   split
   ·exact AA ⟨rfl,hg⟩
   ·exact AA ⟨rfl,rfl,hg⟩
theorem aj (od:Od kd Ok rk M A E s) (pr:Pr rk Ok a b) {st:SortSt} {Q:Array Keyed->SortSt->Prop} (hk:kindOf st=kd) (q:∀r st',Sk st st'->SE rk a.toList b.toList r->Q r st'):wpS M A E s (NF a b) Q st:=by
 rw[Zi];refine pA (wpS_lift (wpAny_rule ⟨rfl,?_⟩));obtain⟨y,f1,f2,f3⟩:=at_ (a:=b) (i:=0) pr.nb;refine pA (LF f1 ?_);have h1:MI rk a.toList b.toList (#[y]:Array Keyed).toList 0 1:=by
  refine⟨?_,List.pairwise_singleton .., λx hx w hw=>?_,λx hx w hw=>?_⟩
  ·have hd:=CO f2;rw[List.drop_zero] at hd;rw[List.drop_zero];show ([y]++a.toList++b.toList.drop 1).Perm (a.toList++b.toList)
   conv=>rhs;rw[hd]
   exact (List.perm_middle (a:=y) (l₁:=a.toList) (l₂:=b.toList.drop 1)).symm
  ·rw[gA.mp hx];exact FB (pr.fst y f1 w (List.mem_of_mem_drop hw))
  ·rw[gA.mp hx];exact YI pr.ub f2 w (by rw[List.drop_zero];exact List.mem_of_mem_drop hw)
 by_cases c1:1=b.size
 ·rw[bA (by simpa using c1)];exact AA (q _ _ (Sk.refl _) (h1.endB pr.ua pr.ub (.inl c1)))
 ·rw[aA (by simpa using c1)];have nb:=pr.nb;have na:=pr.na;by_cases c2:0+1=a.size
  ·rw[bA (by simpa using c2)];exact AA (q _ _ (Sk.refl _) (h1.endL pr.ua pr.ub (dS pr c2)))
  ·rw[aA (by simpa using c2)];refine pA (wpS_get ?_);refine pA (DB (sB (I:=λx c st'=>Sk st st'/\c.1=none/\Gd rk a b (x+1) c.1 c.2.1 c.2.2.1 c.2.2.2.1) (Q:=λc st'=>Sk st st'/\∃r,c.1=some r/\SE rk a.toList b.toList r) ?step ?fin ?init) ?post)
   case init=>exact⟨Sk.refl _,rfl,h1,(show 0+1 < a.size by omega),(show 1 < b.size by omega),iA _⟩
   case fin=>
    rintro⟨ret,out,ia,ib,g⟩ st' ⟨_,e,hg⟩;have e:ret=none:=e;subst e;obtain⟨_,g1,g2,g3⟩:=hg;have g1:ia+1 < a.size:=g1;have g2:ib < b.size:=g2;have g3:max 0 (a.size+b.size)+1<=ia+ib:=g3;omega
   case post=>
    rintro⟨ret,out,ia,ib,g⟩ st' ⟨sk,r,e,hf⟩;have e:ret=some r:=e;subst e;exact AA (q r st' sk hf)
   case step=>
    rintro x ⟨ret,out,ia,ib,g⟩ st1 _ hx ⟨sk1,e,hg⟩;have e:ret=none:=e;subst e;obtain⟨g0,g1,g2,g3⟩:=hg;have g0:MI rk a.toList b.toList out.toList ia ib:=g0;have g1:ia+1 < a.size:=g1;have g2:ib < b.size:=g2;have g3:x+1<=ia+ib:=g3;have hk1:kindOf st1=kd:=by rw[sk1.2.1];exact hk
    unfold m8;dsimp only;refine pA (DB (sB (I:=λz c st'=>st'=st1/\c.1=none/\Gd rk a b (x+1+min z 1) c.1 c.2.1 c.2.2.1 c.2.2.2.1) (Q:=λc st'=>st'=st1/\Gd rk a b (x+2) c.1 c.2.1 c.2.2.1 c.2.2.2.1) ?s1 ?f1 ?i1) ?p1)
    case i1=>exact⟨rfl,rfl,g0,g1,g2,by simpa using g3⟩
    case f1=>
     rintro c st' ⟨e1,_,hg⟩;refine⟨e1,?_⟩;rwa[show x+1+min (max 0 (a.size+b.size)) 1=x+2 by omega] at hg
    case s1=>
     rintro z ⟨ret,out,ia,ib,ac,bc⟩ st' _ hz ⟨rfl,e,hg⟩;have e:ret=none:=e;subst e;obtain⟨g0,g1,g2,g3⟩:=hg;have g3:x+1+min z 1<=ia+ib:=g3;refine DB (EO (p:=x+2) od pr hk1 g0 g1 g2 ⋯) λr st2 q2=>?_;obtain⟨rfl,q2⟩:=q2;cases r with
     |done c=>exact⟨rfl,q2⟩
     |yield c=>
      refine⟨rfl,q2.1,?_⟩;rw[show x+1+min (z+1) 1=x+2 by omega];exact q2.2
    case p1=>
     rintro⟨ret,out,ia,ib,ac,bc⟩ st' ⟨rfl,hg⟩;cases ret with
     |some r=>exact AA ⟨sk1,r,rfl,hg⟩
     |none=>
      obtain⟨g0,g1,g2,g3⟩:=hg;have g0:MI rk a.toList b.toList out.toList ia ib:=g0;have g1:ia+1 < a.size:=g1;have g2:ib < b.size:=g2;have g3:x+2<=ia+ib:=g3;dsimp only;refine pA (wpS_lift (wpAny_rule ⟨rfl,?_⟩));refine pA (DB (sB (I:=λz c st2=>Sk st2 st2/\Sk st' st2/\c.1=none/\cS rk a b (x+2) c) (Q:=λc st2=>Sk st' st2/\cS rk a b (x+2) c) ?s2 ?f2 ?i2) ?p2)
      case i2=>exact⟨Sk.refl _,Sk.refl _,rfl,g0,g1,g2,g3⟩
      case f2=>
       rintro c st2 ⟨_,e1,_,hg⟩;exact⟨e1,hg⟩
      case s2=>
       rintro z ⟨ret,out,ia,ib,gg,ac,bc⟩ st2 _ hz ⟨_,sk2,e,hg⟩;have e:ret=none:=e;subst e;obtain⟨g0,g1,g2,g3⟩:=hg;have g3:x+2<=ia+ib:=g3;have hk2:kindOf st2=kd:=by rw[sk2.2.1];exact hk1
       have go:∀gg',wpS M A E s (BO a b out ia ib gg' ac bc) (VM rk a b (x+2) st2) st2:=λgg'=>DO od pr hk2 g0 g1 g2 ⋯;unfold l8;dsimp only
       split
       ·refine DB (go _) λr st3 q3=>?_;obtain⟨q4,q5⟩:=q3;cases r with
        |done c=>exact⟨sk2.trans q4,q5⟩
        |yield c=>exact⟨Sk.refl _,sk2.trans q4,q5.1,q5.2⟩
       ·refine DB (go _) λr st3 q3=>?_;obtain⟨q4,q5⟩:=q3;cases r with
        |done c=>exact⟨sk2.trans q4,q5⟩
        |yield c=>exact⟨Sk.refl _,sk2.trans q4,q5.1,q5.2⟩
      case p2=>
       rintro⟨ret,out,ia,ib,gg,ac,bc⟩ st2 ⟨sk2,hg⟩;cases ret with
       |some r=>exact AA ⟨sk1.trans sk2,r,rfl,hg⟩
       |none=>
        obtain⟨g0,g1,g2,g3⟩:=hg;dsimp only;refine pA (aS λst3 sk3=>AA ⟨sk1.trans (sk2.trans sk3),rfl,g0,g1,g2,?_⟩);exact g3
end
noncomputable def OF:Array Keyed->Array Keyed->StateT SortSt Sem (Array Keyed):=sortPriv% PySem.Builtin.mergeHi
noncomputable abbrev U6:=Option (Array Keyed)×Nat×Nat×Array Keyed×Nat×Nat
noncomputable abbrev U7:=Option (Array Keyed)×Nat×Nat×Array Keyed×Nat×Nat×Nat
noncomputable abbrev U5:=Option (Array Keyed)×Nat×Nat×Array Keyed×Nat
noncomputable def ME (a b:Array Keyed) (out:Array Keyed) (na nb:Nat):Array Keyed:=a.extract 0 na++b.extract 0 nb++out.reverse
noncomputable def rH (a b:Array Keyed) (out:Array Keyed) (na nb:Nat):Array Keyed:=b.extract 0 nb++a.extract 0 na++out.reverse
noncomputable def eS (a b:Array Keyed) (out:Array Keyed) (na nb g k k1:Nat):StateT SortSt Sem (ForInStep U7):=do
 let x<-elem' a (na - 1)
 if (na - 1 == 0)=true then pure (ForInStep.done (some (ME a b (out.push x) (na - 1) nb),na - 1,nb,out.push x,g,k,k1))
 else if (decide (k < 7)&&decide (k1 < 7))=true then pure (ForInStep.done (none,na - 1,nb,out.push x,g,k,k1))
 else pure (ForInStep.yield (none,na - 1,nb,out.push x,g,k,k1))
noncomputable def fS (a b:Array Keyed) (out:Array Keyed) (na nb g k bc:Nat):StateT SortSt Sem (ForInStep U7):=do
 let y<-elem' b (nb - 1)
 if (nb - 1 == 1)=true then pure (ForInStep.done (some (rH a b (out.push y) na (nb - 1)),na,nb - 1,out.push y,g,k,bc))
 else do
  let x<-elem' a (na - 1)
  let r<-hE true x b 0 (nb - 1) (nb - 1 - 1)
  match r with
  |some at_=>
   if nb - 1 - at_ > 0 then
    if (at_ == 1)=true then pure (ForInStep.done (some (rH a b (out.push y++(b.extract at_ (nb - 1)).reverse) na at_),na,at_,out.push y++(b.extract at_ (nb - 1)).reverse,g,k,nb - 1 - at_))
    else if (at_ == 0)=true then pure (ForInStep.done (some (ME a b (out.push y++(b.extract at_ (nb - 1)).reverse) na at_),na,at_,out.push y++(b.extract at_ (nb - 1)).reverse,g,k,nb - 1 - at_))
    else eS a b (out.push y++(b.extract at_ (nb - 1)).reverse) na at_ g k (nb - 1 - at_)
   else eS a b (out.push y) na (nb - 1) g k (nb - 1 - at_)
  |_=>pure (ForInStep.done (some (ME a b (out.push y) na (nb - 1)),na,nb - 1,out.push y,g,k,bc))
noncomputable def FO (a b:Array Keyed) (out:Array Keyed) (na nb g ac bc:Nat):StateT SortSt Sem (ForInStep U7):=do
 aI g
 let y<-elem' b (nb - 1)
 let r<-hE false y a 0 na (na - 1)
 match r with
 |some at_=>
  if na - at_ > 0 then
   if (at_ == 0)=true then pure (ForInStep.done (some (ME a b (out++(a.extract at_ na).reverse) at_ nb),at_,nb,out++(a.extract at_ na).reverse,g,na - at_,bc))
   else fS a b (out++(a.extract at_ na).reverse) at_ nb g (na - at_) bc
  else fS a b out na nb g (na - at_) bc
 |_=>pure (ForInStep.done (some (ME a b out na nb),na,nb,out,g,ac,bc))
noncomputable def vU (a b:Array Keyed) (mg:Nat) (s:U6):StateT SortSt Sem (ForInStep U6):=do
 let y<-elem' b (s.snd.snd.fst - 1)
 let x<-elem' a (s.snd.fst - 1)
 let r<-lt' y x
 match r with
 |some aw=>
  if aw=true then do
   let x<-elem' a (s.snd.fst - 1)
   if (s.snd.fst - 1 == 0)=true then pure (ForInStep.done (some (ME a b (s.snd.snd.snd.fst.push x) (s.snd.fst - 1) s.snd.snd.fst),s.snd.fst - 1,s.snd.snd.fst,s.snd.snd.snd.fst.push x,s.snd.snd.snd.snd.fst+1,0))
   else if s.snd.snd.snd.snd.fst+1>=mg then pure (ForInStep.done (none,s.snd.fst - 1,s.snd.snd.fst,s.snd.snd.snd.fst.push x,s.snd.snd.snd.snd.fst+1,0))
   else pure (ForInStep.yield (none,s.snd.fst - 1,s.snd.snd.fst,s.snd.snd.snd.fst.push x,s.snd.snd.snd.snd.fst+1,0))
  else do
   let y<-elem' b (s.snd.snd.fst - 1)
   if (s.snd.snd.fst - 1 == 1)=true then pure (ForInStep.done (some (rH a b (s.snd.snd.snd.fst.push y) s.snd.fst (s.snd.snd.fst - 1)),s.snd.fst,s.snd.snd.fst - 1,s.snd.snd.snd.fst.push y,0,s.snd.snd.snd.snd.snd+1))
   else if s.snd.snd.snd.snd.snd+1>=mg then pure (ForInStep.done (none,s.snd.fst,s.snd.snd.fst - 1,s.snd.snd.snd.fst.push y,0,s.snd.snd.snd.snd.snd+1))
   else pure (ForInStep.yield (none,s.snd.fst,s.snd.snd.fst - 1,s.snd.snd.snd.fst.push y,0,s.snd.snd.snd.snd.snd+1))
 |_=>pure (ForInStep.done (some (ME a b s.snd.snd.snd.fst s.snd.fst s.snd.snd.fst),s.snd.fst,s.snd.snd.fst,s.snd.snd.snd.fst,s.snd.snd.snd.snd.fst,s.snd.snd.snd.snd.snd))
noncomputable def gS (a b:Array Keyed) (s:U7):StateT SortSt Sem (ForInStep U7):=
 if s.snd.snd.snd.snd.fst > 1 then FO a b s.snd.snd.snd.fst s.snd.fst s.snd.snd.fst (s.snd.snd.snd.snd.fst - 1) s.snd.snd.snd.snd.snd.fst s.snd.snd.snd.snd.snd.snd
 else FO a b s.snd.snd.snd.fst s.snd.fst s.snd.snd.fst s.snd.snd.snd.snd.fst s.snd.snd.snd.snd.snd.fst s.snd.snd.snd.snd.snd.snd
noncomputable def n8 (a b:Array Keyed) (s:U5):StateT SortSt Sem (ForInStep U5):=do
 let t<-forIn [0:a.size+b.size] ((none,s.snd.fst,s.snd.snd.fst,s.snd.snd.snd.fst,0,0):U6) λο t=>vU a b s.snd.snd.snd.snd t
 match t.fst with
 |some r=>pure (ForInStep.done (some r,t.snd.fst,t.snd.snd.fst,t.snd.snd.snd.fst,s.snd.snd.snd.snd))
 |none=>do
  liftM (rule "list.sort.gallop")
  let u<-forIn [0:a.size+b.size] ((none,t.snd.fst,t.snd.snd.fst,t.snd.snd.snd.fst,s.snd.snd.snd.snd+1,t.snd.snd.snd.snd.fst,t.snd.snd.snd.snd.snd):U7) λο u=>gS a b u
  match u.fst with
  |some r=>pure (ForInStep.done (some r,u.snd.fst,u.snd.snd.fst,u.snd.snd.snd.fst,u.snd.snd.snd.snd.fst))
  |none=>do
   aI (u.snd.snd.snd.snd.fst+1)
   pure (ForInStep.yield (none,u.snd.fst,u.snd.snd.fst,u.snd.snd.snd.fst,u.snd.snd.snd.snd.fst+1))
theorem bj (a b:Array Keyed):OF a b=(do
 rule "list.sort.merge-hi"
 let x<-elem' a (a.size - 1)
 if (a.size - 1 == 0)=true then pure (ME a b #[x] (a.size - 1) b.size)
 else if (b.size == 1)=true then pure (rH a b #[x] (a.size - 1) b.size)
 else do
  let st<-get
  let t<-forIn [0:a.size+b.size] ((none,a.size - 1,b.size, #[x],gallopOf st):U5) λο t=>n8 a b t
  match t.fst with
  |some r=>pure r
  |none=>unsupported "internal:list.sort.merge-bound"):=by kernel_rfl
structure MH (rk:Keyed->Int) (la lb rl:List Keyed) (na nb:Nat):Prop where
 pm:(la.take na++lb.take nb++rl).Perm (la++lb)
 so:Up rk rl
 oa:∀x∈la.take na,∀y∈rl,rk x<=rk y
 ob:∀x∈lb.take nb,∀y∈rl,rk x<=rk y
theorem iS {α:Type} {l:List α} {i:Nat} {x:α} (h:l[i]?=some x):l.take (i+1)=l.take i++[x]:=by
 rw[xB,h];rfl
theorem NJ {rk:Keyed->Int} {l:List Keyed} {i:Nat} {x:Keyed} (hu:Up rk l) (h:l[i]?=some x):∀y∈l.take (i+1),rk y<=rk x:=λy hy=>by
 have hu2:Up rk (l.take (i+1)):=hu.sublist (jC _ l);rw[iS h] at hu2 hy;rcases rA.mp hy with hy|hy
 ·exact (DA.mp hu2).2.2 y hy x (gA.mpr rfl)
 ·rw[gA.mp hy];exact aB _
section
variable {rk:Keyed->Int} {la lb rl:List Keyed} {na nb:Nat} {x y:Keyed}
theorem MH.pushA (h:MH rk la lb rl (na+1) nb) (ha:Up rk la) (hx:la[na]?=some x) (hy:∀y∈lb.take nb,rk y<=rk x):MH rk la lb (x::rl) na nb:=by
 have hd:=iS hx;have hxa:=NJ ha hx;have mem:∀z,z∈la.take na->z∈la.take (na+1):=λz hz=>by rw[hd];exact RA _ hz
 have memx:x∈la.take (na+1):=by rw[hd];exact BA _ (gA.mpr rfl)
 refine⟨?_,List.pairwise_cons.mpr ⟨λz hz=>h.oa x memx z hz,h.so⟩,?_,?_⟩
 ·refine List.Perm.trans ?_ h.pm;rw[hd,vA,vA,vA];refine List.Perm.append_left _ ?_;rw[<-vA];have:=List.perm_middle (a:=x) (l₁:=lb.take nb) (l₂:=rl);simpa[vA] using this
 ·intro z hz w hw;rcases wA.mp hw with rfl|hw
  ·exact hxa z (mem z hz)
  ·exact h.oa z (mem z hz) w hw
 ·intro z hz w hw;rcases wA.mp hw with rfl|hw
  ·exact hy z hz
  ·exact h.ob z hz w hw
theorem MH.pushB (h:MH rk la lb rl na (nb+1)) (hb:Up rk lb) (hy:lb[nb]?=some y) (hx:∀x∈la.take na,rk x<=rk y):MH rk la lb (y::rl) na nb:=by
 have hd:=iS hy;have hyb:=NJ hb hy;have mem:∀z,z∈lb.take nb->z∈lb.take (nb+1):=λz hz=>by rw[hd];exact RA _ hz
 have memy:y∈lb.take (nb+1):=by rw[hd];exact BA _ (gA.mpr rfl)
 refine⟨?_,List.pairwise_cons.mpr ⟨λz hz=>h.ob y memy z hz,h.so⟩,?_,?_⟩
 ·have:=h.pm;rw[hd] at this;simpa[vA] using this
 ·intro z hz w hw;rcases wA.mp hw with rfl|hw
  ·exact hx z hz
  ·exact h.oa z hz w hw
 ·intro z hz w hw;rcases wA.mp hw with rfl|hw
  ·exact hyb z (mem z hz)
  ·exact h.ob z (mem z hz) w hw
theorem MH.blkA (ha:Up rk la) {na:Nat}:∀(k:Nat) {rl:List Keyed},MH rk la lb rl (na+k) nb->na+k<=la.length->(∀i,i < k->∀x,la[na+i]?=some x->∀y∈lb.take nb,rk y<=rk x)->MH rk la lb ((la.drop na).take k++rl) na nb
 |0,rl,h,_,_=>by rw[fC,XB];exact h
 |k+1,rl,h,hk,hy=>by
  obtain⟨x,hx⟩:∃x,la[na+k]?=some x:=⟨_,zA ⋯⟩
  have h2:=MH.pushA (na:=na+k) h ha hx (hy k ⋯ x hx);have ih:=MH.blkA ha k h2 ⋯ λi hi=>hy i ⋯;rw[WR hx,vA];exact ih
theorem MH.blkB (hb:Up rk lb) {nb:Nat}:∀(k:Nat) {rl:List Keyed},MH rk la lb rl na (nb+k)->nb+k<=lb.length->(∀i,i < k->∀y,lb[nb+i]?=some y->∀x∈la.take na,rk x<=rk y)->MH rk la lb ((lb.drop nb).take k++rl) na nb
 |0,rl,h,_,_=>by rw[fC,XB];exact h
 |k+1,rl,h,hk,hx=>by
  obtain⟨y,hy⟩:∃y,lb[nb+k]?=some y:=⟨_,zA ⋯⟩
  have h2:=MH.pushB (nb:=nb+k) h hb hy (hx k ⋯ y hy);have ih:=MH.blkB hb k h2 ⋯ λi hi=>hx i ⋯;rw[WR hy,vA];exact ih
theorem jS {a:Array Keyed} {i:Nat}:(a.extract 0 i).toList=a.toList.take i:=by
 rw[Array.toList_extract];show ((a.toList.drop 0).take (i - 0))=_;rw[List.drop_zero,Nat.sub_zero]
theorem kS {out:Array Keyed} {x:Keyed}:(out.push x).toList.reverse=x::out.toList.reverse:=by simp
theorem o8 {out a:Array Keyed} {i j k:Nat} (h:j=i+k):(out++(a.extract i j).reverse).toList.reverse=(a.toList.drop i).take k++out.toList.reverse:=by
 subst h;rw[pB,List.reverse_append,Array.toList_reverse,List.reverse_reverse,YR]
theorem MH.done {a b out:Array Keyed} (h:MH rk a.toList b.toList out.toList.reverse na nb) (ha:Up rk a.toList) (hb:Up rk b.toList) (hd:na=0\/nb=0):SE rk a.toList b.toList (ME a b out na nb):=by
 unfold SE ME;rw[pB,pB,jS,jS,Array.toList_reverse];refine⟨h.pm,?_⟩;have sa:Up rk (a.toList.take na):=ha.sublist (jC _ _);have sb:Up rk (b.toList.take nb):=hb.sublist (jC _ _);refine DA.mpr ⟨DA.mpr ⟨sa,sb,?_⟩,h.so,λx hx y hy=>?_⟩
 ·intro x hx y hy;rcases hd with rfl|rfl
  ·rw[fC] at hx;cases hx
  ·rw[fC] at hy;cases hy
 ·rcases rA.mp hx with hx|hx
  ·exact h.oa x hx y hy
  ·exact h.ob x hx y hy
theorem MH.first {a b out:Array Keyed} (h:MH rk a.toList b.toList out.toList.reverse na nb) (ha:Up rk a.toList) (hb:Up rk b.toList) (hl:∀x∈b.toList.take nb,∀y∈a.toList,rk x<=rk y):SE rk a.toList b.toList (rH a b out na nb):=by
 unfold SE rH;rw[pB,pB,jS,jS,Array.toList_reverse];have sa:Up rk (a.toList.take na):=ha.sublist (jC _ _);have sb:Up rk (b.toList.take nb):=hb.sublist (jC _ _);constructor
 ·exact List.Perm.trans (List.Perm.append_right _ List.perm_append_comm) h.pm
 ·refine DA.mpr ⟨DA.mpr ⟨sb,sa,λx hx y hy=>hl x hx y (List.mem_of_mem_take hy)⟩,h.so,λx hx y hy=>?_⟩;rcases rA.mp hx with hx|hx
  ·exact h.ob x hx y hy
  ·exact h.oa x hx y hy
end
section
variable {M:Model} {A:Around} {E:Value->Shared->Prop} {s:Shared} {kd:SortKind} {Ok:Keyed->Prop} {rk:Keyed->Int} {a b:Array Keyed}
noncomputable def Hd (rk:Keyed->Int) (a b:Array Keyed) (p:Nat) (ret:Option (Array Keyed)) (na nb:Nat) (out:Array Keyed):Prop:=match ret with
 |some r=>SE rk a.toList b.toList r
 |none=>MH rk a.toList b.toList out.toList.reverse na nb/\1<=na/\2<=nb/\na<=a.size/\nb<=b.size/\p+na+nb<=a.size+b.size
noncomputable def lS (rk:Keyed->Int) (a b:Array Keyed) (p:Nat) (c:U7):Prop:=Hd rk a b p c.1 c.2.1 c.2.2.1 c.2.2.2.1
noncomputable def WM (rk:Keyed->Int) (a b:Array Keyed) (p:Nat) (st:SortSt) (r:ForInStep U7) (st':SortSt):Prop:=Sk st st'/\match r with
 |.done c=>lS rk a b p c
 |.yield c=>c.1=none/\lS rk a b p c
theorem mS (pr:Pr rk Ok a b) {nb:Nat} (h:nb=1):∀x∈b.toList.take nb,∀y∈a.toList,rk x<=rk y:=λx hx y hy=>by
 subst h;obtain⟨z,h1,h2,_⟩:=at_ (a:=b) (i:=0) pr.nb;rw[show (1:Nat)=0+1 from rfl,iS h2,fC,XB] at hx;rw[gA.mp hx];exact FB (pr.fst z h1 y hy)
theorem OJ (pr:Pr rk Ok a b) {out:Array Keyed} {na nb g k k1 p:Nat} {st:SortSt} (h:MH rk a.toList b.toList out.toList.reverse na nb) (hna:1<=na) (hnb:2<=nb) (ha:na<=a.size) (hb:nb<=b.size) (hx:∀x,a[na - 1]?=some x->∀y∈b.toList.take nb,rk y<=rk x) (hp:p+(na - 1)+nb<=a.size+b.size):
  wpS M A E s (eS a b out na nb g k k1) (WM rk a b p st) st:=by
 unfold eS;obtain⟨x,e1,e2,_⟩:=at_ (a:=a) (i:=na - 1) ⋯;refine pA (LF e1 ?_);have h2:MH rk a.toList b.toList (out.push x).toList.reverse (na - 1) nb:=by
  rw[kS];rw[show na=(na - 1)+1 by omega] at h;exact h.pushA pr.ua e2 (hx x e1)
 by_cases c:na - 1=0
 ·rw[bA (by simpa using c)];exact AA ⟨Sk.refl _,h2.done pr.ua pr.ub (.inl c)⟩
 ·rw[aA (by simpa using c)];have hg:Hd rk a b p none (na - 1) nb (out.push x):=⟨h2,⋯,hnb,⋯,hb,⋯⟩
  split
  ·exact AA ⟨Sk.refl _,hg⟩
  ·exact AA ⟨Sk.refl _,rfl,hg⟩
theorem PJ (od:Od kd Ok rk M A E s) (pr:Pr rk Ok a b) {out:Array Keyed} {na nb g k bc p:Nat} {st:SortSt} (hk:kindOf st=kd) (h:MH rk a.toList b.toList out.toList.reverse na nb) (hna:1<=na) (hnb:2<=nb) (ha:na<=a.size) (hb:nb<=b.size) (hy:∀y,b[nb - 1]?=some y->∀x∈a.toList.take na,rk x<=rk y) (hp:p+na+(nb - 1)<=a.size+b.size):
  wpS M A E s (fS a b out na nb g k bc) (WM rk a b p st) st:=by
 unfold fS;obtain⟨y,f1,f2,f3⟩:=at_ (a:=b) (i:=nb - 1) ⋯;obtain⟨x,e1,e2,e3⟩:=at_ (a:=a) (i:=na - 1) ⋯;refine pA (LF f1 ?_);have h2:MH rk a.toList b.toList (out.push y).toList.reverse na (nb - 1):=by
  rw[kS];rw[show nb=(nb - 1)+1 by omega] at h;exact h.pushB pr.ub f2 (hy y f1)
 by_cases c:nb - 1=1
 ·rw[bA (by simpa using c)];exact AA ⟨Sk.refl _,h2.first pr.ua pr.ub (mS pr c)⟩
 ·rw[aA (by simpa using c)];refine pA (LF e1 ?_);refine pA (UM od hk (pr.oa x e3) (λi hi=>?_) (bS pr.ub ⋯) ⋯ λat' hat hlt hge=>?_)
  ·obtain⟨z,z1,_,z3⟩:=at_ (a:=b) (i:=0+i) ⋯;exact⟨z,z1,pr.ob z z3⟩
  dsimp only;have hxd:∀w∈a.toList.take na,rk w<=rk x:=λw hw=>NJ pr.ua e2 w (by rw[show na - 1+1=na by omega];exact hw);have h3:MH rk a.toList b.toList ((b.toList.drop at').take (nb - 1 - at')++(out.push y).toList.reverse) na at':=by
   refine MH.blkB pr.ub (nb - 1 - at') (by rw[show at'+(nb - 1 - at')=nb - 1 by omega];exact h2) (by rw[EA];omega) λi hi z hz w hw=>?_;have:=hge (at'+i) ⋯ ⋯;unfold bB at this;rw[bA rfl,VF (show b[0+(at'+i)]?=some z by rw[<-MA,NB];exact hz)] at this;exact mB (hxd w hw) (Int.not_lt.mp (SB this))
  have hnx:1<=at'->∀x',a[na - 1]?=some x'->∀w∈b.toList.take at',rk w<=rk x':=λhlt2 x' hx' w hw=>by
   rw[e1] at hx';cases hx';obtain⟨z,z1,z2,_⟩:=at_ (a:=b) (i:=at' - 1) ⋯;have:=hlt (at' - 1) ⋯;unfold bB at this;rw[bA rfl,VF (show b[0+(at' - 1)]?=some z by rw[NB];exact z1)] at this;exact mB (NJ pr.ub z2 w (by rw[show at' - 1+1=at' by omega];exact hw)) (FB (OB this))
  by_cases ck:nb - 1 - at' > 0
  ·rw[bA ck];have h4:MH rk a.toList b.toList (out.push y++(b.extract at' (nb - 1)).reverse).toList.reverse na at':=by rw[o8 (k:=nb - 1 - at') ⋯];exact h3
   by_cases c2:at'=1
   ·rw[bA (by simpa using c2)];exact AA ⟨Sk.refl _,h4.first pr.ua pr.ub (mS pr c2)⟩
   ·rw[aA (by simpa using c2)];by_cases c3:at'=0
    ·rw[bA (by simpa using c3)];exact AA ⟨Sk.refl _,h4.done pr.ua pr.ub (.inr c3)⟩
    ·rw[aA (by simpa using c3)];exact OJ pr h4 hna ⋯ ha ⋯ (hnx ⋯) ⋯
  ·rw[aA ck];have:at'=nb - 1:=⋯;subst this;exact OJ pr h2 hna ⋯ ha ⋯ (hnx ⋯) ⋯
theorem GO (od:Od kd Ok rk M A E s) (pr:Pr rk Ok a b) {out:Array Keyed} {na nb g ac bc p:Nat} {st:SortSt} (hk:kindOf st=kd) (h:MH rk a.toList b.toList out.toList.reverse na nb) (hna:1<=na) (hnb:2<=nb) (ha:na<=a.size) (hb:nb<=b.size) (hp:p+na+(nb - 1)<=a.size+b.size):
  wpS M A E s (FO a b out na nb g ac bc) (WM rk a b p st) st:=by
 unfold FO;refine pA (aS λst1 sk=>?_);have hk1:kindOf st1=kd:=by rw[sk.2.1];exact hk
 have up:∀r st',WM rk a b p st1 r st'->WM rk a b p st r st':=λr st' q=>⟨sk.trans q.1,q.2⟩
 refine DB ?_ up;obtain⟨y,f1,f2,f3⟩:=at_ (a:=b) (i:=nb - 1) ⋯;refine pA (LF f1 ?_);refine pA (UM od hk1 (pr.ob y f3) (λi hi=>?_) (bS pr.ua ⋯) ⋯ λat' hat hlt hge=>?_)
 ·obtain⟨z,z1,_,z3⟩:=at_ (a:=a) (i:=0+i) ⋯;exact⟨z,z1,pr.oa z z3⟩
 dsimp only;have hyd:∀w∈b.toList.take nb,rk w<=rk y:=λw hw=>NJ pr.ub f2 w (by rw[show nb - 1+1=nb by omega];exact hw);have h3:MH rk a.toList b.toList ((a.toList.drop at').take (na - at')++out.toList.reverse) at' nb:=by
  refine MH.blkA pr.ua (na - at') (by rw[show at'+(na - at')=na by omega];exact h) (by rw[EA];omega) λi hi z hz w hw=>?_;have:=hge (at'+i) ⋯ ⋯;unfold bB at this;rw[aA nA,VF (show a[0+(at'+i)]?=some z by rw[<-MA,NB];exact hz)] at this;have this:decide (rk y < rk z)=true:=by simpa using this
  exact mB (hyd w hw) (FB (OB this))
 have hnx:1<=at'->∀y',b[nb - 1]?=some y'->∀w∈a.toList.take at',rk w<=rk y':=λhlt2 y' hy' w hw=>by
  rw[f1] at hy';cases hy';obtain⟨z,z1,z2,_⟩:=at_ (a:=a) (i:=at' - 1) ⋯;have:=hlt (at' - 1) ⋯;unfold bB at this;rw[aA nA,VF (show a[0+(at' - 1)]?=some z by rw[NB];exact z1)] at this;have this:decide (rk y < rk z)=false:=by simpa using this
  exact mB (NJ pr.ua z2 w (by rw[show at' - 1+1=at' by omega];exact hw)) (Int.not_lt.mp (SB this))
 by_cases ck:na - at' > 0
 ·rw[bA ck];have h4:MH rk a.toList b.toList (out++(a.extract at' na).reverse).toList.reverse at' nb:=by rw[o8 (k:=na - at') ⋯];exact h3
  by_cases c:at'=0
  ·rw[bA (by simpa using c)];exact AA ⟨Sk.refl _,h4.done pr.ua pr.ub (.inl c)⟩
  ·rw[aA (by simpa using c)];exact PJ od pr hk1 h4 ⋯ hnb ⋯ hb (hnx ⋯) ⋯
 ·rw[aA ck];have:at'=na:=⋯;subst this;exact PJ od pr hk1 h hna hnb ha hb (hnx ⋯) ⋯
theorem JO (od:Od kd Ok rk M A E s) (pr:Pr rk Ok a b) {out:Array Keyed} {na nb mg ac bc p:Nat} {st:SortSt} (hk:kindOf st=kd) (h:MH rk a.toList b.toList out.toList.reverse na nb) (hna:1<=na) (hnb:2<=nb) (ha:na<=a.size) (hb:nb<=b.size) (hp:p+na+nb<=a.size+b.size+1):
  wpS M A E s (vU a b mg (none,na,nb,out,ac,bc)) (λr st'=>st'=st/\match r with
   |.done c=>Hd rk a b p c.1 c.2.1 c.2.2.1 c.2.2.2.1
   |.yield c=>c.1=none/\Hd rk a b p c.1 c.2.1 c.2.2.1 c.2.2.2.1) st:=by
 unfold vU;dsimp only;obtain⟨y,f1,f2,f3⟩:=at_ (a:=b) (i:=nb - 1) ⋯;obtain⟨x,e1,e2,e3⟩:=at_ (a:=a) (i:=na - 1) ⋯;refine pA (LF f1 (pA (LF e1 (pA (od st y x _ hk (pr.ob y f3) (pr.oa x e3) ?_)))));dsimp only;have hyd:∀w∈b.toList.take nb,rk w<=rk y:=λw hw=>NJ pr.ub f2 w (by rw[show nb - 1+1=nb by omega];exact hw);have hxd:∀w∈a.toList.take na,rk w<=rk x:=λw hw=>NJ pr.ua e2 w (by rw[show na - 1+1=na by omega];exact hw);by_cases hlt:rk y < rk x
 ·rw[kA hlt,bA rfl];refine pA (LF e1 ?_);have h2:MH rk a.toList b.toList (out.push x).toList.reverse (na - 1) nb:=by
   rw[kS];rw[show na=(na - 1)+1 by omega] at h;exact h.pushA pr.ua e2 λw hw=>mB (hyd w hw) (FB hlt)
  by_cases c:na - 1=0
  ·rw[bA (by simpa using c)];exact AA ⟨rfl,h2.done pr.ua pr.ub (.inl c)⟩
  ·rw[aA (by simpa using c)];have hg:Hd rk a b p none (na - 1) nb (out.push x):=⟨h2,⋯,hnb,⋯,hb,⋯⟩
   split
   ·exact AA ⟨rfl,hg⟩
   ·exact AA ⟨rfl,rfl,hg⟩
 ·rw[yA hlt,aA nA];refine pA (LF f1 ?_);have h2:MH rk a.toList b.toList (out.push y).toList.reverse na (nb - 1):=by
   rw[kS];rw[show nb=(nb - 1)+1 by omega] at h;exact h.pushB pr.ub f2 λw hw=>mB (hxd w hw) (Int.not_lt.mp hlt)
  by_cases c:nb - 1=1
  ·rw[bA (by simpa using c)];exact AA ⟨rfl,h2.first pr.ua pr.ub (mS pr c)⟩
  ·rw[aA (by simpa using c)];have hg:Hd rk a b p none na (nb - 1) (out.push y):=⟨h2,hna,⋯,ha,⋯,⋯⟩
   split
   ·exact AA ⟨rfl,hg⟩
   ·exact AA ⟨rfl,rfl,hg⟩
theorem cj (od:Od kd Ok rk M A E s) (pr:Pr rk Ok a b) {st:SortSt} {Q:Array Keyed->SortSt->Prop} (hk:kindOf st=kd) (q:∀r st',Sk st st'->SE rk a.toList b.toList r->Q r st'):wpS M A E s (OF a b) Q st:=by
 rw[bj];refine pA (wpS_lift (wpAny_rule ⟨rfl,?_⟩));have nb:=pr.nb;have na:=pr.na;obtain⟨x,f1,f2,f3⟩:=at_ (a:=a) (i:=a.size - 1) ⋯;refine pA (LF f1 ?_);have h1:MH rk a.toList b.toList (#[x]:Array Keyed).toList.reverse (a.size - 1) b.size:=by
  have e0:MH rk a.toList b.toList [] (a.size - 1+1) b.size:=by
   rw[show a.size - 1+1=a.toList.length by rw[EA];omega,show b.size=b.toList.length from (EA).symm];refine⟨?_,List.Pairwise.nil,λx ο w hw=>(AB hw).elim,λx ο w hw=>(AB hw).elim⟩;rw[vB,vB,IB]
  exact e0.pushA pr.ua f2 λw hw=>FB (pr.lst x f1 w (List.mem_of_mem_take hw))
 by_cases c1:a.size - 1=0
 ·rw[bA (by simpa using c1)];exact AA (q _ _ (Sk.refl _) (h1.done pr.ua pr.ub (.inl c1)))
 ·rw[aA (by simpa using c1)];by_cases c2:b.size=1
  ·rw[bA (by simpa using c2)];exact AA (q _ _ (Sk.refl _) (h1.first pr.ua pr.ub (mS pr c2)))
  ·rw[aA (by simpa using c2)];refine pA (wpS_get ?_);refine pA (DB (sB (I:=λx c st'=>Sk st st'/\c.1=none/\Hd rk a b (x+1) c.1 c.2.1 c.2.2.1 c.2.2.2.1) (Q:=λc st'=>Sk st st'/\∃r,c.1=some r/\SE rk a.toList b.toList r) ?step ?fin ?init) ?post)
   case init=>exact⟨Sk.refl _,rfl,h1,(show 1<=a.size - 1 by omega),(show 2<=b.size by omega),(show a.size - 1<=a.size by omega),iA _,(show 0+1+(a.size - 1)+b.size<=a.size+b.size by omega)⟩
   case fin=>
    rintro⟨ret,na,nb,out,g⟩ st' ⟨_,e,hg⟩;have e:ret=none:=e;subst e;obtain⟨_,g1,g2,_,_,g3⟩:=hg;have g1:1<=na:=g1;have g3:max 0 (a.size+b.size)+1+na+nb<=a.size+b.size:=g3;omega
   case post=>
    rintro⟨ret,na,nb,out,g⟩ st' ⟨sk,r,e,hf⟩;have e:ret=some r:=e;subst e;exact AA (q r st' sk hf)
   case step=>
    rintro x ⟨ret,na,nb,out,g⟩ st1 _ hx ⟨sk1,e,hg⟩;have e:ret=none:=e;subst e;obtain⟨g0,g1,g2,g4,g5,g3⟩:=hg;have g0:MH rk a.toList b.toList out.toList.reverse na nb:=g0;have g1:1<=na:=g1;have g2:2<=nb:=g2;have g4:na<=a.size:=g4;have g5:nb<=b.size:=g5;have g3:x+1+na+nb<=a.size+b.size:=g3;have hk1:kindOf st1=kd:=by rw[sk1.2.1];exact hk
    unfold n8;dsimp only;refine pA (DB (sB (I:=λz c st'=>st'=st1/\c.1=none/\Hd rk a b (x+1+min z 1) c.1 c.2.1 c.2.2.1 c.2.2.2.1) (Q:=λc st'=>st'=st1/\Hd rk a b (x+2) c.1 c.2.1 c.2.2.1 c.2.2.2.1) ?s1 ?f1 ?i1) ?p1)
    case i1=>exact⟨rfl,rfl,g0,g1,g2,g4,g5,(show x+1+min 0 1+na+nb<=a.size+b.size by omega)⟩
    case f1=>
     rintro c st' ⟨e1,_,hg⟩;refine⟨e1,?_⟩;rwa[show x+1+min (max 0 (a.size+b.size)) 1=x+2 by omega] at hg
    case s1=>
     rintro z ⟨ret,na,nb,out,ac,bc⟩ st' _ hz ⟨rfl,e,hg⟩;have e:ret=none:=e;subst e;obtain⟨g0,g1,g2,g4,g5,g3⟩:=hg;have g3:x+1+min z 1+na+nb<=a.size+b.size:=g3;refine DB (JO (p:=x+2) od pr hk1 g0 g1 g2 g4 g5 ⋯) λr st2 q2=>?_;obtain⟨rfl,q2⟩:=q2;cases r with
     |done c=>exact⟨rfl,q2⟩
     |yield c=>
      refine⟨rfl,q2.1,?_⟩;rw[show x+1+min (z+1) 1=x+2 by omega];exact q2.2
    case p1=>
     rintro⟨ret,na,nb,out,ac,bc⟩ st' ⟨rfl,hg⟩;cases ret with
     |some r=>exact AA ⟨sk1,r,rfl,hg⟩
     |none=>
      obtain⟨g0,g1,g2,g4,g5,g3⟩:=hg;have g3:x+2+na+nb<=a.size+b.size:=g3;dsimp only;refine pA (wpS_lift (wpAny_rule ⟨rfl,?_⟩));refine pA (DB (sB (I:=λz c st2=>Sk st2 st2/\Sk st' st2/\c.1=none/\lS rk a b (x+2) c) (Q:=λc st2=>Sk st' st2/\lS rk a b (x+2) c) ?s2 ?f2 ?i2) ?p2)
      case i2=>exact⟨Sk.refl _,Sk.refl _,rfl,g0,g1,g2,g4,g5,g3⟩
      case f2=>
       rintro c st2 ⟨_,e1,_,hg⟩;exact⟨e1,hg⟩
      case s2=>
       rintro z ⟨ret,na,nb,out,gg,ac,bc⟩ st2 _ hz ⟨_,sk2,e,hg⟩;have e:ret=none:=e;subst e;obtain⟨g0,g1,g2,g4,g5,g3⟩:=hg;have g3:x+2+na+nb<=a.size+b.size:=g3;have g2:2<=nb:=g2;have hk2:kindOf st2=kd:=by rw[sk2.2.1];exact hk1
       have go:∀gg',wpS M A E s (FO a b out na nb gg' ac bc) (WM rk a b (x+2) st2) st2:=λgg'=>GO od pr hk2 g0 g1 g2 g4 g5 ⋯;unfold gS;dsimp only
       split
       ·refine DB (go _) λr st3 q3=>?_;obtain⟨q4,q5⟩:=q3;cases r with
        |done c=>exact⟨sk2.trans q4,q5⟩
        |yield c=>exact⟨Sk.refl _,sk2.trans q4,q5.1,q5.2⟩
       ·refine DB (go _) λr st3 q3=>?_;obtain⟨q4,q5⟩:=q3;cases r with
        |done c=>exact⟨sk2.trans q4,q5⟩
        |yield c=>exact⟨Sk.refl _,sk2.trans q4,q5.1,q5.2⟩
      case p2=>
       rintro⟨ret,na,nb,out,gg,ac,bc⟩ st2 ⟨sk2,hg⟩;cases ret with
       |some r=>exact AA ⟨sk1.trans sk2,r,rfl,hg⟩
       |none=>
        obtain⟨g0,g1,g2,g4,g5,g3⟩:=hg;dsimp only;refine pA (aS λst3 sk3=>AA ⟨sk1.trans (sk2.trans sk3),rfl,g0,g1,g2,g4,g5,?_⟩);exact g3
end
noncomputable def tL (at_:Nat) (l:List Keyed) (xs:Array Keyed):Array Keyed:=l.zipIdx.foldl (λa (p,j)=>a.setIfInBounds (at_+j) p) xs
noncomputable def wG (at_:Nat) (merged:Array Keyed):StateT SortSt Sem Bool:=do
 modify λs=>SortSt.mk' (kindOf s) (tL at_ merged.toList (arrOf s)) (pendingOf s) (gallopOf s) (failedOf s)
 let st<-get
 pure (failedOf st).isNone
noncomputable def r8 (xs:Array Keyed) (sa na sb nb:Nat):StateT SortSt Sem Bool:=
 if (nb == 0)=true then pure true
 else if na<=nb then do
  let m<-NF (xs.extract sa sb) (xs.extract sb (sb+nb))
  wG sa m
 else do
  let m<-OF (xs.extract sa sb) (xs.extract sb (sb+nb))
  wG sa m
noncomputable def t8 (xs:Array Keyed) (sa na sb nb:Nat):StateT SortSt Sem Bool:=do
 let y<-elem' xs sb
 let r<-hE false y xs sa na 0
 match r with
 |some k=>
  if (na - k == 0)=true then pure true
  else do
   let x<-elem' xs (sa+k+(na - k) - 1)
   let r<-hE true x xs sb nb (nb - 1)
   match r with
   |some nb'=>r8 xs (sa+k) (na - k) sb nb'
   |_=>pure false
 |_=>pure false
noncomputable def u8 (i:Nat) (s:SortSt) (sa na pw sb nb:Nat):StateT SortSt Sem Bool:=do
 set (setPending s (((pendingOf s).setIfInBounds i (sa,na+nb,pw)).eraseIdxIfInBounds (i+1)))
 t8 (arrOf s) sa na sb nb
theorem dj (i:Nat):mergeAt' i=(do
 let s<-get
 match (pendingOf s)[i]?,(pendingOf s)[i+1]? with
 |some (sa,na,pw),some (sb,nb,_)=>u8 i s sa na pw sb nb
 |_,_=>unsupported "internal:list.sort.pending"):=by kernel_rfl
noncomputable abbrev sl (xs:Array Keyed) (i n:Nat):List Keyed:=(xs.toList.drop i).take n
theorem nS {xs:Array Keyed} {i n j:Nat} (hj:j < n):(sl xs i n)[j]?=xs[i+j]?:=by
 rw[List.getElem?_take_of_lt hj,List.getElem?_drop,MA]
theorem bI {xs:Array Keyed} {i n:Nat} (h:i+n<=xs.size):(sl xs i n).length=n:=by
 rw[NA,GB,EA];omega
theorem oS {rk:Keyed->Int} {xs:Array Keyed} {i n j:Nat} (hj:j < (sl xs i n).length):Kr rk xs (i+j)=rk (sl xs i n)[j]:=by
 have h1:(sl xs i n)[j]?=some (sl xs i n)[j]:=zA hj;rw[nS (by rw[NA] at hj;omega)] at h1;exact VF h1
theorem w8 {rk:Keyed->Int} {xs:Array Keyed} {i n:Nat} (h:VE rk xs i n) (hn:i+n<=xs.size):Up rk (sl xs i n):=by
 refine List.pairwise_iff_getElem.mpr λj k h1 h2 hjk=>?_;rw[<-oS (rk:=rk) h1,<-oS (rk:=rk) h2];exact h j k ⋯ (by rw[bI hn] at h2;exact h2)
theorem QJ {rk:Keyed->Int} {xs:Array Keyed} {i n:Nat} (h:Up rk (sl xs i n)) (hn:i+n<=xs.size):VE rk xs i n:=λj k hjk hk=>by
 have h1:j < (sl xs i n).length:=by rw[bI hn];omega
 have h2:k < (sl xs i n).length:=by rw[bI hn];omega
 rw[oS h1,oS h2];by_cases c:j=k
 ·subst c;exact aB _
 ·exact List.pairwise_iff_getElem.mp h j k h1 h2 ⋯
theorem uL {xs:Array Keyed} {i n:Nat} {z:Keyed} (h:z∈sl xs i n):∃j,j < n/\xs[i+j]?=some z:=by
 obtain⟨j,hj,e⟩:=List.getElem_of_mem h;have hj2:j < n:=by rw[NA] at hj;omega
 refine⟨j,hj2,?_⟩;rw[<-nS hj2,zA hj,e]
theorem pS {xs:Array Keyed} {i n k:Nat} (hk:k<=n):sl xs i n=sl xs i k++sl xs (i+k) (n - k):=by
 show (xs.toList.drop i).take n=_
 conv=>lhs;rw[show n=k+(n - k) by omega,List.take_add]
 rw[List.drop_drop]
theorem x8 {xs:Array Keyed} {i j n:Nat} (h:j=i+n):(xs.extract i j).toList=sl xs i n:=by subst h;exact YR
theorem vL {rk:Keyed->Int} {A1 X Y B2 m:List Keyed} (h1:Up rk (A1++X)) (h2:Up rk (Y++B2)) (hm:m.Perm (X++Y)) (hu:Up rk m) (c1:∀x∈A1,∀y∈Y++B2,rk x<=rk y) (c2:∀x∈X,∀y∈B2,rk x<=rk y):Up rk (A1++(m++B2)):=by
 obtain⟨a1,_,a3⟩:=DA.mp h1;obtain⟨_,b2,b3⟩:=DA.mp h2;refine DA.mpr ⟨a1,DA.mpr ⟨hu,b2,λx hx y hy=>?_⟩,λx hx y hy=>?_⟩
 ·rcases rA.mp (hm.mem_iff.mp hx) with h|h
  ·exact c2 x h y hy
  ·exact b3 x h y hy
 ·rcases rA.mp hy with h|h
  ·rcases rA.mp (hm.mem_iff.mp h) with h|h
   ·exact a3 x hx y h
   ·exact c1 x hx y (RA _ h)
  ·exact c1 x hx y (BA _ h)
theorem y8 (i:Nat):∀(l:List Keyed) (j:Nat) (P M Z:List Keyed),P.length=i+j->M.length=l.length->((l.zipIdx j).foldl (λ(a:Array Keyed) (q:Keyed×Nat)=>a.setIfInBounds (i+q.2) q.1) (P++(M++Z)).toArray).toList=P++(l++Z)
 |[],j,P,M,Z,hP,hM=>by
  have:M=[]:=List.eq_nil_of_length_eq_zero hM;subst this;rfl
 |x::l,j,P,[],Z,hP,hM=>by cases hM
 |x::l,j,P,m::M,Z,hP,hM=>by
  have hs:((P++(m::M++Z)).toArray.setIfInBounds (i+j) x)=((P++[x])++(M++Z)).toArray:=by
   rw[List.setIfInBounds_toArray,<-hP,List.set_append_right _ _ (iA _),kC];simp
  have ih:=y8 i l (j+1) (P++[x]) M Z (by rw[qA,hP];rfl) (by simpa using hM);rw[List.zipIdx_cons,List.foldl_cons];show ((l.zipIdx (j+1)).foldl _ ((P++(m::M++Z)).toArray.setIfInBounds (i+j) x)).toList=_;rw[hs,ih];simp
theorem fj {i:Nat} {l P M Z:List Keyed} {xs:Array Keyed} (h:xs.toList=P++(M++Z)) (hP:P.length=i) (hM:M.length=l.length):(tL i l xs).toList=P++(l++Z):=by
 have:xs=(P++(M++Z)).toArray:=by rw[<-h]
 subst this;exact y8 i l 0 P M Z (by rw[hP];rfl) hM
theorem wL {xs:Array Keyed} {i n:Nat} (h:i+n<=xs.size):xs.toList=xs.toList.take i++(sl xs i n++xs.toList.drop (i+n))/\(xs.toList.take i).length=i:=by
 constructor
 ·conv=>lhs;rw[<-QB i xs.toList,<-QB n (xs.toList.drop i),List.drop_drop]
 ·rw[NA,EA];omega
noncomputable def Ct:List (Nat×Nat×Nat)->Nat->Nat->Prop
 |[],s,e=>s=e
 |t::l,s,e=>t.1=s/\1<=t.2.1/\Ct l (s+t.2.1) e
theorem Ct.app:∀{l1 l2:List (Nat×Nat×Nat)} {s e:Nat},Ct (l1++l2) s e↔∃m,Ct l1 s m/\Ct l2 m e
 |[],l2,s,e=>⟨λh=>⟨s,rfl,h⟩,λ⟨m,h1,h2⟩=>by cases h1;exact h2⟩
 |t::l1,l2,s,e=>by
  constructor
  ·rintro⟨h1,h2,h3⟩;obtain⟨m,h4,h5⟩:=Ct.app.mp h3;exact⟨m,⟨h1,h2,h4⟩,h5⟩
  ·rintro⟨m,⟨h1,h2,h4⟩,h5⟩;exact⟨h1,h2,Ct.app.mpr ⟨m,h4,h5⟩⟩
theorem Ct.len:∀{l:List (Nat×Nat×Nat)} {s e:Nat},Ct l s e->s+l.length<=e
 |[],s,e,h=>by cases h;exact iA _
 |t::l,s,e,⟨_,h2,h3⟩=>by have:=Ct.len h3;rw[jB];omega
theorem Ct.mem:∀{l:List (Nat×Nat×Nat)} {s e:Nat},Ct l s e->∀t∈l,s<=t.1/\t.1+t.2.1<=e
 |[],s,e,h,t,ht=>by cases ht
 |u::l,s,e,⟨h1,h2,h3⟩,t,ht=>by
  have h4:=Ct.len h3;rcases wA.mp ht with rfl|ht
  ·omega
  ·have:=Ct.mem h3 t ht;omega
theorem gj {pd:Array (Nat×Nat×Nat)} {l1 l2:List (Nat×Nat×Nat)} {t u v:Nat×Nat×Nat} (h:pd.toList=l1++(t::u::l2)):((pd.setIfInBounds l1.length v).eraseIdxIfInBounds (l1.length+1)).toList=l1++(v::l2):=by
 have:pd=(l1++(t::u::l2)).toArray:=by rw[<-h]
 subst this;rw[List.setIfInBounds_toArray,List.set_append_right _ _ (iA _),kC,List.set_cons_zero,List.eraseIdxIfInBounds_toArray,List.eraseIdx_append_of_length_le ⋯,show l1.length+1 - l1.length=1 by omega]
 rfl
section
variable {M:Model} {A:Around} {E:Value->Shared->Prop} {s:Shared} {a₀:Array Keyed} {kd:SortKind} {pd:Array (Nat×Nat×Nat)} {Ok:Keyed->Prop} {rk:Keyed->Int}
theorem KO {σ:Type} {t st:σ} {Q:PUnit->σ->Prop} (h:Q ⟨⟩ t):wpS M A E s (set t:StateT σ Sem PUnit) Q st:=by
 exact wpS_modify (f:=λο=>t) h
theorem ij {st:SortSt} {i:Nat} {P X Z:List Keyed} {r:Array Keyed} {Q:Bool->SortSt->Prop} (hB:Sb a₀ kd pd st) (hs:(arrOf st).toList=P++(X++Z)) (hP:P.length=i) (hr:r.toList.Perm X)
  (h:∀st',Sb a₀ kd pd st'->(arrOf st').toList=P++(r.toList++Z)->Q true st'):wpS M A E s (wG i r) Q st:=by
 unfold wG;refine pA (wpS_modify (pA (wpS_get ?_)));show wpS _ _ _ _ (pure (failedOf st).isNone) Q _;rw[show (failedOf st).isNone=true by rw[hB.failed];rfl];have e:=fj (l:=r.toList) hs hP hr.length_eq.symm;refine AA (h _ ⟨?_,hB.kind,hB.failed,hB.pend⟩ e);refine Array.Perm.trans (Array.perm_iff_toList_perm.mpr ?_) hB.perm;show (tL i r.toList (arrOf st)).toList.Perm (arrOf st).toList;rw[e,hs];exact List.Perm.append_left _ (List.Perm.append_right _ hr)
theorem xL {xs:Array Keyed} {P N Z:List Keyed} {i n:Nat} (h:xs.toList=P++(N++Z)) (hP:P.length=i) (hN:N.length=n):sl xs i n=N:=by
 show (xs.toList.drop i).take n=N;rw[h,<-hP,List.drop_left,<-hN,List.take_left]
theorem jj {xs ys:Array Keyed} {P N N' Z:List Keyed} {i n:Nat} (h:xs.toList=P++(N++Z)) (h':ys.toList=P++(N'++Z)) (hP:P.length=i) (hN:N.length=n) (hN':N'.length=n):dF xs ys i n:=λk hk=>by
 rw[<-MA,<-MA,h,h'];by_cases c:k < P.length
 ·rw[List.getElem?_append_left c,List.getElem?_append_left c]
 ·rw[SA ⋯,SA ⋯,SA ⋯,SA ⋯,hN,hN']
theorem kj {st:SortSt} {l1 l2:List (Nat×Nat×Nat)} {sa na pw sb nb q0:Nat} {Q:Bool->SortSt->Prop} (od:Od kd Ok rk M A E s) (h0:nE Ok a₀) (hB:Sb a₀ kd pd st) (hp:pd.toList=l1++((sa,na,pw)::(sb,nb,q0)::l2)) (hsb:sb=sa+na) (hna:1<=na) (hnb:1<=nb) (hn:sb+nb<=a₀.size)
  (s1:VE rk (arrOf st) sa na) (s2:VE rk (arrOf st) sb nb)
  (h:∀st' pd',pd'.toList=l1++((sa,na+nb,pw)::l2)->Sb a₀ kd pd' st'->VE rk (arrOf st') sa (na+nb)->dF (arrOf st) (arrOf st') sa (na+nb)->Q true st'):wpS M A E s (mergeAt' l1.length) Q st:=by
 rw[dj];refine pA (wpS_get ?_);have e1:(pendingOf st)[l1.length]?=some (sa,na,pw):=by
  rw[hB.pend,<-MA,hp,SA (iA _),kC];rfl
 have e2:(pendingOf st)[l1.length+1]?=some (sb,nb,q0):=by
  rw[hB.pend,<-MA,hp,SA ⋯,show l1.length+1 - l1.length=1 by omega];rfl
 rw[e1,e2];dsimp only;unfold u8;have hsz:=hB.size;obtain⟨xs,hxs⟩:∃xs,arrOf st=xs:=⟨_,rfl⟩
 obtain⟨pd',hpd⟩:∃pd',((pendingOf st).setIfInBounds l1.length (sa,na+nb,pw)).eraseIdxIfInBounds (l1.length+1)=pd':=⟨_,rfl⟩
 have hp':pd'.toList=l1++((sa,na+nb,pw)::l2):=by rw[<-hpd,hB.pend];exact gj hp
 have hB1:Sb a₀ kd pd' (setPending st pd'):=⟨hB.perm,hB.kind,hB.failed,rfl⟩
 have ha1:arrOf (setPending st pd')=xs:=hxs;rw[hpd];refine pA (KO ?_);generalize setPending st pd'=st1 at hB1 ha1 ⊢;have hat:∀i,i < a₀.size->∃p,xs[i]?=some p/\Ok p:=λi hi=>by rw[<-hxs];exact hB.at h0 hi
 rw[hxs] at s1 s2 hsz ⊢;have h:=λst' q1 q2 q3=>h st' pd' hp' q1 q2 q3;rw[hxs] at h;have stay:Up rk (sl xs sa na++sl xs (sa+na) nb)->Q true st1:=λhu=>by
  refine h st1 hB1 ?_ (by rw[ha1];exact dF.rfl');rw[ha1];refine QJ ?_ ⋯;rw[pS (k:=na) ⋯,show na+nb - na=nb by omega];exact hu
 unfold t8;have uA:=w8 s1 ⋯;have uB:=w8 s2 ⋯;obtain⟨y,y1,yo⟩:=hat sb ⋯;refine pA (LF y1 ?_);refine pA (UM od hB1.kind yo (λi hi=>hat _ ⋯) s1 ⋯ λk hk lt ge=>?_);dsimp only;have A1le:∀z∈sl xs sa k,rk z<=rk y:=λz hz=>by
  obtain⟨j,hj,e⟩:=uL hz;have:=lt j hj;unfold bB at this;rw[aA nA,VF e] at this;have this:decide (rk y < rk z)=false:=by simpa using this
  exact Int.not_lt.mp (SB this)
 have Xgt:∀z∈sl xs (sa+k) (na - k),rk y < rk z:=λz hz=>by
  obtain⟨j,hj,e⟩:=uL hz;have:=ge (k+j) ⋯ ⋯;unfold bB at this;rw[aA nA,VF (show xs[sa+(k+j)]?=some z by rw[<-Nat.add_assoc];exact e)] at this;have this:decide (rk y < rk z)=true:=by simpa using this
  exact OB this
 have yle:∀w∈sl xs sb nb,rk y<=rk w:=λw hw=>by
  obtain⟨j,hj,e⟩:=uL hw;have:=s2 0 j ⋯ hj;rwa[VF (show xs[sb+0]?=some y from y1),VF e] at this
 by_cases c:na - k=0
 ·rw[bA (by simpa using c)];have:k=na:=⋯;subst this;refine AA (stay (DA.mpr ⟨uA,by rw[<-hsb];exact uB,λz hz w hw=>?_⟩));rw[<-hsb] at hw;exact mB (A1le z hz) (yle w hw)
 ·rw[aA (by simpa using c)];obtain⟨x,x1,xo⟩:=hat (sa+k+(na - k) - 1) ⋯;refine pA (LF x1 ?_);refine pA (UM od hB1.kind xo (λi hi=>hat _ ⋯) s2 ⋯ λnb' hnb' lt2 ge2=>?_);dsimp only;have x2:xs[sa+(na - 1)]?=some x:=by rw[<-x1];congr 1;omega
  have lex:∀z∈sl xs sa na,rk z<=rk x:=λz hz=>by
   obtain⟨j,hj,e⟩:=uL hz;have:=s1 j (na - 1) ⋯ ⋯;rwa[VF e,VF x2] at this
  have Ylt:∀z∈sl xs sb nb',rk z < rk x:=λz hz=>by
   obtain⟨j,hj,e⟩:=uL hz;have:=lt2 j hj;unfold bB at this;rw[bA rfl,VF e] at this;exact OB this
  have B2ge:∀z∈sl xs (sb+nb') (nb - nb'),rk x<=rk z:=λz hz=>by
   obtain⟨j,hj,e⟩:=uL hz;have:=ge2 (nb'+j) ⋯ ⋯;unfold bB at this;rw[bA rfl,VF (show xs[sb+(nb'+j)]?=some z by rw[<-Nat.add_assoc];exact e)] at this;exact Int.not_lt.mp (SB this)
  unfold r8;by_cases c2:nb'=0
  ·rw[bA (by simpa using c2)];subst c2;refine AA (stay (DA.mpr ⟨uA,by rw[<-hsb];exact uB,λz hz w hw=>?_⟩));rw[<-hsb] at hw;exact mB (lex z hz) (B2ge w (by simpa using hw))
  ·rw[aA (by simpa using c2)];have eA:sl xs sa na=sl xs sa k++sl xs (sa+k) (na - k):=pS hk;have eB:sl xs sb nb=sl xs sb nb'++sl xs (sb+nb') (nb - nb'):=pS hnb';have hX:(xs.extract (sa+k) sb).toList=sl xs (sa+k) (na - k):=x8 ⋯;have hY:(xs.extract sb (sb+nb')).toList=sl xs sb nb':=x8 rfl;have zX:(xs.extract (sa+k) sb).size=na - k:=by rw[<-EA,hX,bI ⋯]
   have zY:(xs.extract sb (sb+nb')).size=nb':=by rw[<-EA,hY,bI ⋯]
   have okm:∀i n,i+n<=a₀.size->∀z∈sl xs i n,Ok z:=λi n hin z hz=>by
    obtain⟨j,hj,e⟩:=uL hz;obtain⟨p,p1,p2⟩:=hat (i+j) ⋯;rw[e] at p1;cases p1;exact p2
   have uA':=uA;have uB':=uB;rw[eA] at uA';rw[eB] at uB';have pr:Pr rk Ok (xs.extract (sa+k) sb) (xs.extract sb (sb+nb')):=by
    refine⟨by rw[hX];exact (DA.mp uA').2.1,by rw[hY];exact (DA.mp uB').1,by rw[hX];exact okm _ _ ⋯,by rw[hY];exact okm _ _ ⋯,λx' hx' w hw=>?_,λy' hy' w hw=>?_,⋯,⋯⟩
    ·rw[zX,<-MA,hX,nS ⋯,show sa+k+(na - k - 1)=sa+(na - 1) by omega,x2] at hx';cases hx';rw[hY] at hw;exact Ylt w hw
    ·rw[<-MA,hY,nS ⋯] at hy';have hy':xs[sb]?=some y':=hy';rw[y1] at hy';cases hy';rw[hX] at hw;exact Xgt w hw
   have go:∀r st',Sk st1 st'->SE rk (xs.extract (sa+k) sb).toList (xs.extract sb (sb+nb')).toList r->wpS M A E s (wG (sa+k) r) Q st':=λr st' sk hf=>by
    rw[hX,hY] at hf;obtain⟨f1,f2⟩:=hf;have hB2:Sb a₀ kd pd' st':=⟨by rw[sk.1];exact hB1.perm,by rw[sk.2.1];exact hB1.kind,by rw[sk.2.2.1];exact hB1.failed,by rw[sk.2.2.2];exact hB1.pend⟩
    have cut1:=wL (xs:=xs) (i:=sa) (n:=na+nb) ⋯;have eM:sl xs sa (na+nb)=sl xs sa k++((sl xs (sa+k) (na - k)++sl xs sb nb')++sl xs (sb+nb') (nb - nb')):=by
     rw[pS (k:=na) ⋯,show na+nb - na=nb by omega,<-hsb,eA,eB];simp only[vA]
    have lr:r.toList.length=(na - k)+nb':=by rw[f1.length_eq,qA,bI ⋯,bI ⋯]
    refine ij hB2 (P:=xs.toList.take sa++sl xs sa k) (X:=sl xs (sa+k) (na - k)++sl xs sb nb') (Z:=sl xs (sb+nb') (nb - nb')++xs.toList.drop (sa+(na+nb))) ?_ ?_ f1 λst2 b1 b2=>?_
    ·rw[sk.1,ha1];refine cut1.1.trans ?_;rw[eM];simp only[vA]
    ·rw[qA,cut1.2,bI ⋯]
    ·have b3:(arrOf st2).toList=xs.toList.take sa++((sl xs sa k++(r.toList++sl xs (sb+nb') (nb - nb')))++xs.toList.drop (sa+(na+nb))):=by rw[b2];simp only[vA]
     have ln:(sl xs sa k++(r.toList++sl xs (sb+nb') (nb - nb'))).length=na+nb:=by
      rw[qA,qA,lr,bI ⋯,bI ⋯];omega
     refine h st2 b1 (QJ ?_ (by rw[b1.size];omega)) (jj cut1.1 b3 cut1.2 (bI ⋯) ln);rw[xL b3 cut1.2 ln];refine vL uA' uB' f1 f2 (λz hz w hw=>?_) λz hz w hw=>?_
     ·rw[<-eB] at hw;exact mB (A1le z hz) (yle w hw)
     ·exact mB (lex z (by rw[eA];exact BA _ hz)) (B2ge w hw)
   by_cases c3:na - k<=nb'
   ·rw[bA c3];exact pA (aj od pr hB1.kind go)
   ·rw[aA c3];exact pA (cj od pr hB1.kind go)
end
noncomputable abbrev V2:=Option Unit×Nat
noncomputable def nG (lo n:Nat):StateT SortSt Sem (ForInStep V2):=do
 modify λs=>setPending s ((pendingOf s).push (lo,n,0))
 pure (ForInStep.yield (none,lo+n))
noncomputable def LO (pw:Nat):StateT SortSt Sem (ForInStep (Option Unit×Unit)):=do
 let st<-get
 match (if (pendingOf st).size > 1 then (pendingOf st)[(pendingOf st).size - 2]? else none) with
 |some (_,_,older)=>
  if older<=pw then pure (ForInStep.done (none,()))
  else do
   let b<-mergeAt' ((pendingOf st).size - 2)
   if (!b)=true then pure (ForInStep.done (some (),()))
   else pure (ForInStep.yield (none,()))
 |_=>pure (ForInStep.done (none,()))
noncomputable def sH (pw:Nat) (t:Nat×Nat×Nat):Nat×Nat×Nat:=match t with
 |(st,len,_)=>(st,len,pw)
noncomputable def wU (size lo n pw:Nat):StateT SortSt Sem (ForInStep V2):=do
 let r<-forIn [0:size] ((none,()):Option Unit×Unit) λο ο=>LO pw
 match r.fst with
 |some r=>pure (ForInStep.done (some r,lo))
 |none=>do
  modify λs=>setPending s ((pendingOf s).modify ((pendingOf s).size - 1) (sH pw))
  nG lo n
noncomputable def qS (size lo n:Nat):StateT SortSt Sem (ForInStep V2):=do
 let st<-get
 match (pendingOf st).back? with
 |some (s1,n1,_)=>wU size lo n (power' size (2 * s1+n1) (2 * s1+n1+n1+n) size)
 |_=>nG lo n
noncomputable def S8 (size minrun:Nat) (c:V2):StateT SortSt Sem (ForInStep V2):=
 if c.snd>=size then pure (ForInStep.done (none,c.snd))
 else do
  let r<-countRun' c.snd (size - c.snd)
  match r with
  |some n=>
   if n < minrun then do
    liftM (rule "list.sort.binary-insertion")
    let b<-binarySort' c.snd (min (size - c.snd) minrun) n
    if (!b)=true then pure (ForInStep.done (some (),c.snd))
    else qS size c.snd (min (size - c.snd) minrun)
   else qS size c.snd n
  |_=>pure (ForInStep.done (some (),c.snd))
noncomputable def eI (p:Array (Nat×Nat×Nat)):Nat:=if Option.any (λx=>decide (x < p[p.size - 2+1]?.elim 0 λx=>x.snd.fst)) (if p.size - 2 > 0 then Option.map (λx=>x.snd.fst) p[p.size - 2 - 1]? else none)=true then p.size - 2 - 1 else p.size - 2
noncomputable def T8:StateT SortSt Sem (ForInStep (Option Unit×Unit)):=do
 let st<-get
 if (pendingOf st).size<=1 then pure (ForInStep.done (none,()))
 else do
  let b<-mergeAt' (eI (pendingOf st))
  if (!b)=true then pure (ForInStep.done (some (),()))
  else pure (ForInStep.yield (none,()))
theorem lj:sortRuns'=(do
 let st<-get
 let t<-forIn [0:(arrOf st).size] ((none,0):V2) λο c=>S8 (arrOf st).size (minRun' (arrOf st).size (arrOf st).size 0) c
 match t.fst with
 |some r=>pure r
 |none=>do
  let u<-forIn [0:(arrOf st).size] ((none,()):Option Unit×Unit) λο ο=>T8
  match u.fst with
  |some r=>pure r
  |none=>pure ()):=by kernel_rfl
section
variable {M:Model} {A:Around} {E:Value->Shared->Prop} {s:Shared} {a₀:Array Keyed} {kd:SortKind} {pd:Array (Nat×Nat×Nat)} {Ok:Keyed->Prop} {rk:Keyed->Int}
structure Pn (rk:Keyed->Int) (a₀:Array Keyed) (kd:SortKind) (pd:Array (Nat×Nat×Nat)) (lo:Nat) (st:SortSt):Prop where
 b:Sb a₀ kd pd st
 c:Ct pd.toList 0 lo
 g:∀t∈pd.toList,VE rk (arrOf st) t.1 t.2.1
 le:lo<=a₀.size
theorem Pn.out {lo lo' n':Nat} {st st':SortSt} (h:Pn rk a₀ kd pd lo st) (hb:Sb a₀ kd pd st') (o:dF (arrOf st) (arrOf st') lo' n') (hl:lo<=lo'):Pn rk a₀ kd pd lo st':=
 ⟨hb,h.c,λt ht=>(h.g t ht).out o (.inl (by have:=h.c.mem t ht;omega)),h.le⟩
theorem two_at {α:Type} {l:List α} {i:Nat} (h:i+1 < l.length):∃t u,l=l.take i++(t::u::l.drop (i+2))/\(l.take i).length=i:=by
 refine⟨l[i],l[i+1],?_,by rw[NA];omega⟩
 conv=>lhs;rw[<-QB i l,List.drop_eq_getElem_cons ⋯,List.drop_eq_getElem_cons h]
theorem RJ {lo i:Nat} {st:SortSt} {Q:Bool->SortSt->Prop} (od:Od kd Ok rk M A E s) (h0:nE Ok a₀) (h:Pn rk a₀ kd pd lo st) (hi:i+1 < pd.size)
  (q:∀st' pd',Pn rk a₀ kd pd' lo st'->pd'.size+1=pd.size->dF (arrOf st) (arrOf st') 0 lo->Q true st'):wpS M A E s (mergeAt' i) Q st:=by
 obtain⟨⟨sa,na,pw⟩,⟨sb,nb,q0⟩,e,hl⟩:=two_at (l:=pd.toList) (i:=i) (by rw[EA];exact hi);generalize pd.toList.take i=l1 at e hl;generalize pd.toList.drop (i+2)=l2 at e;subst hl;have hc:=h.c;rw[e] at hc;obtain⟨m,c1,⟨d1,d2,d3,d4,d5⟩⟩:=Ct.app.mp hc;have d1:sa=m:=d1;have d2:1<=na:=d2;have d3:sb=m+na:=d3;have d4:1<=nb:=d4;have d5:Ct l2 (m+na+nb) lo:=d5;have d6:=d5.len;have hle:=h.le;have s1:VE rk (arrOf st) sa na:=h.g (sa,na,pw) (by rw[e];simp);have s2:VE rk (arrOf st) sb nb:=h.g (sb,nb,q0) (by rw[e];simp);refine kj od h0 h.b e ⋯ d2 d4 ⋯ s1 s2 λst' pd' e' b' g' o'=>q st' pd' ⟨b',?_,λt ht=>?_,h.le⟩ ?_ (o'.wide ⋯ ⋯)
 ·rw[e'];refine Ct.app.mpr ⟨m,c1,d1,(show 1<=na+nb by omega),?_⟩;show Ct l2 (m+(na+nb)) lo;rw[<-Nat.add_assoc];exact d5
 ·rw[e'] at ht;rcases rA.mp ht with h1|h1
  ·have:=c1.mem t h1;exact (h.g t (by rw[e];exact RA _ h1)).out o' (.inl ⋯)
  ·rcases wA.mp h1 with rfl|h1
   ·exact g'
   ·have:=d5.mem t h1;exact (h.g t (by rw[e];exact BA _ (fA _ (fA _ h1)))).out o' (.inr ⋯)
 ·rw[<-EA,<-EA,e,e'];simp only[qA,jB];omega
theorem Ct.mod (pw:Nat):∀{l:List (Nat×Nat×Nat)} (i:Nat) {s e:Nat},Ct l s e->Ct (l.modify i (sH pw)) s e/\∀t∈l.modify i (sH pw),∃u∈l,t.1=u.1/\t.2.1=u.2.1
 |[],i,s,e,h=>by
  rw[show ([]:List (Nat×Nat×Nat)).modify i (sH pw)=[] by cases i<;>rfl];exact⟨h,λt ht=>by cases ht⟩
 |(a,b,c)::l,0,s,e,⟨h1,h2,h3⟩=>by
  rw[List.modify_zero_cons];refine⟨⟨h1,h2,h3⟩,λt ht=>?_⟩;rcases wA.mp ht with rfl|ht
  ·exact⟨(a,b,c),cA .., rfl,rfl⟩
  ·exact⟨t,fA _ ht,rfl,rfl⟩
 |u::l,i+1,s,e,⟨h1,h2,h3⟩=>by
  obtain⟨g1,g2⟩:=Ct.mod pw i h3;rw[List.modify_succ_cons];refine⟨⟨h1,h2,g1⟩,λt ht=>?_⟩;rcases wA.mp ht with rfl|ht
  ·exact⟨t,cA .., rfl,rfl⟩
  ·obtain⟨v,v1,v2⟩:=g2 t ht;exact⟨v,fA _ v1,v2⟩
noncomputable def rS (rk:Keyed->Int) (a₀:Array Keyed) (kd:SortKind) (lo:Nat) (r:ForInStep V2) (st':SortSt):Prop:=match r with
 |.done c=>False
 |.yield c=>∃lo' pd',c=(none,lo')/\lo < lo'/\Pn rk a₀ kd pd' lo' st'
theorem U8 {lo n:Nat} {st:SortSt} (h:Pn rk a₀ kd pd lo st) (hg:VE rk (arrOf st) lo n) (hn:1<=n) (hle:lo+n<=a₀.size):wpS M A E s (nG lo n) (rS rk a₀ kd lo) st:=by
 unfold nG;refine pA (wpS_modify (AA ⟨lo+n,(pendingOf st).push (lo,n,0),rfl,⋯,⟨h.b.perm,h.b.kind,h.b.failed,rfl⟩,?_,λt ht=>?_,hle⟩))
 ·rw[h.b.pend,iC];exact Ct.app.mpr ⟨lo,h.c,rfl,hn,rfl⟩
 ·rw[h.b.pend,iC] at ht;rcases rA.mp ht with h1|h1
  ·exact h.g t h1
  ·rw[gA.mp h1];exact hg
theorem MO {lo n pw:Nat} {st:SortSt} (od:Od kd Ok rk M A E s) (h0:nE Ok a₀) (h:Pn rk a₀ kd pd lo st) (hg:VE rk (arrOf st) lo n) (hn:1<=n) (hle:lo+n<=a₀.size):wpS M A E s (wU a₀.size lo n pw) (rS rk a₀ kd lo) st:=by
 unfold wU;refine pA (DB (sB (I:=λο c st'=>c=(none,())/\∃pd',Pn rk a₀ kd pd' lo st'/\VE rk (arrOf st') lo n) (Q:=λc st'=>c=(none,())/\∃pd',Pn rk a₀ kd pd' lo st'/\VE rk (arrOf st') lo n) ?step (λο ο q=>q) ⟨rfl,pd,h,hg⟩) ?post)
 case step=>
  rintro x c st1 _ _ ⟨rfl,pd1,h1,g1⟩;unfold LO;refine pA (wpS_get ?_);rw[h1.b.pend];by_cases c1:pd1.size > 1
  ·rw[bA c1];obtain⟨⟨t1,t2,t3⟩,e⟩:∃t,pd1[pd1.size - 2]?=some t:=⟨_,Array.getElem?_eq_getElem ⋯⟩
   rw[e];dsimp only;by_cases c2:t3<=pw
   ·rw[bA c2];exact AA ⟨rfl,pd1,h1,g1⟩
   ·rw[aA c2];refine pA (RJ od h0 h1 ⋯ λst2 pd2 h2 ο o2=>?_);rw[aA (by simp)];exact AA ⟨rfl,pd2,h2,g1.out o2 (.inr ⋯)⟩
  ·rw[aA c1];exact AA ⟨rfl,pd1,h1,g1⟩
 case post=>
  rintro c st1 ⟨rfl,pd1,h1,g1⟩;dsimp only;refine pA (wpS_modify ?_);obtain⟨m1,m2⟩:=Ct.mod pw (pd1.size - 1) h1.c;refine U8 (pd:=pd1.modify (pd1.size - 1) (sH pw)) ⟨⟨h1.b.perm,h1.b.kind,h1.b.failed,?_⟩,?_,λt ht=>?_,h1.le⟩ g1 hn hle
  ·show (pendingOf st1).modify ((pendingOf st1).size - 1) (sH pw)=_;rw[h1.b.pend]
  ·rw[Array.toList_modify];exact m1
  ·rw[Array.toList_modify] at ht;obtain⟨u,u1,u2,u3⟩:=m2 t ht;rw[u2,u3];exact h1.g u u1
theorem SJ {lo n:Nat} {st:SortSt} (od:Od kd Ok rk M A E s) (h0:nE Ok a₀) (h:Pn rk a₀ kd pd lo st) (hg:VE rk (arrOf st) lo n) (hn:1<=n) (hle:lo+n<=a₀.size):wpS M A E s (qS a₀.size lo n) (rS rk a₀ kd lo) st:=by
 unfold qS;refine pA (wpS_get ?_);rw[h.b.pend];cases e:pd.back? with
 |none=>exact U8 h hg hn hle
 |some t=>exact MO od h0 h hg hn hle
theorem NO {p:Array (Nat×Nat×Nat)} (h:1 < p.size):eI p+1 < p.size:=by
 unfold eI
 repeat' split
 all_goals omega
theorem mj {st:SortSt} {Q:Unit->SortSt->Prop} (od:Od kd Ok rk M A E s) (h0:nE Ok a₀) (hB:Sb a₀ kd #[] st) (h2:1<=a₀.size)
  (h:∀st',(arrOf st').Perm a₀->failedOf st'=none->VE rk (arrOf st') 0 a₀.size->Q () st'):wpS M A E s sortRuns' Q st:=by
 rw[lj];refine pA (wpS_get ?_);rw[hB.size];refine pA (DB (sB (I:=λx c st'=>∃lo pd,c=(none,lo)/\x<=lo/\Pn rk a₀ kd pd lo st') (Q:=λc st'=>∃pd,c=(none,a₀.size)/\Pn rk a₀ kd pd a₀.size st') ?step ?fin ?init) ?post)
 case init=>exact⟨0, #[],rfl,iA _,hB,rfl,λt ht=>by simp at ht,bC _⟩
 case fin=>
  rintro c st' ⟨lo,pd,rfl,hx,hp⟩;have:=hp.le;have e:lo=a₀.size:=⋯;subst e;exact⟨pd,rfl,hp⟩
 case step=>
  rintro x c st1 _ hx ⟨lo,pd,rfl,hx2,hp⟩;have hle:=hp.le;unfold S8;dsimp only;by_cases c1:lo>=a₀.size
  ·rw[bA c1];have e:lo=a₀.size:=⋯;subst e;exact AA ⟨pd,rfl,hp⟩
  ·rw[aA c1];refine pA (Wi od h0 ⋯ ⋯ hp.b λm st2 b2 m1 m2 g2 o2=>?_);dsimp only;have hp2:=hp.out b2 o2 (iA _);have nx:∀r st',rS rk a₀ kd lo r st'->(match r with
    |.done c=>∃pd,c=((none,a₀.size):V2)/\Pn rk a₀ kd pd a₀.size st'
    |.yield c=>∃lo pd,c=((none,lo):V2)/\x+1<=lo/\Pn rk a₀ kd pd lo st'):=λr st' hr=>by
    cases r with
    |done c=>exact hr.elim
    |yield c=>
     obtain⟨lo',pd',e1,e2,e3⟩:=hr;exact⟨lo',pd',e1,⋯,e3⟩
   by_cases c2:m < minRun' a₀.size a₀.size 0
   ·rw[bA c2];refine pA (wpS_lift (wpAny_rule ⟨rfl,?_⟩));refine pA (Ui od h0 ⋯ ⋯ b2 g2 λst3 b3 g3 o3=>?_);rw[aA (by simp)];refine DB (SJ od h0 (hp2.out b3 o3 (iA _)) g3 ⋯ ⋯) λr st' hr=>?_;cases r with
    |done c=>exact hr.elim
    |yield c=>exact nx (.yield c) st' hr
   ·rw[aA c2];refine DB (SJ od h0 hp2 g2 m1 ⋯) λr st' hr=>?_;cases r with
    |done c=>exact hr.elim
    |yield c=>exact nx (.yield c) st' hr
 case post=>
  rintro c st1 ⟨pd,rfl,hp⟩;dsimp only;refine pA (DB (sB (I:=λx c st'=>c=(none,())/\∃pd,Pn rk a₀ kd pd a₀.size st'/\pd.size<=max 1 (a₀.size - x)) (Q:=λc st'=>c=(none,())/\∃pd,Pn rk a₀ kd pd a₀.size st'/\pd.size<=1) ?s2 ?f2 ?i2) ?p2)
  case i2=>
   have:=hp.c.len;rw[EA] at this;exact⟨rfl,pd,hp,⋯⟩
  case f2=>
   rintro c st' ⟨e,pd',h1,h2⟩;exact⟨e,pd',h1,⋯⟩
  case s2=>
   rintro x c st2 _ hx ⟨rfl,pd2,hp2,hz⟩;unfold T8;refine pA (wpS_get ?_);rw[hp2.b.pend];by_cases c1:pd2.size<=1
   ·rw[bA c1];exact AA ⟨rfl,pd2,hp2,c1⟩
   ·rw[aA c1];refine pA (RJ od h0 hp2 (NO ⋯) λst3 pd3 h3 z3 ο=>?_);rw[aA (by simp)];exact AA ⟨rfl,pd3,h3,⋯⟩
  case p2=>
   rintro c st2 ⟨rfl,pd2,hp2,hz⟩;dsimp only;refine AA (h st2 hp2.b.perm hp2.b.failed ?_);have hc:=hp2.c;have hg:=hp2.g;rw[<-EA] at hz;generalize pd2.toList=l at hc hg hz
   match l,hc,hg,hz with
   |[],hc,_,_=>
    have hc:0=a₀.size:=hc;omega
   |[(a,b,c)],hc,hg,_=>
    obtain⟨e1,e2,e3⟩:=hc;have e1:a=0:=e1;have e3:0+b=a₀.size:=e3;have:=hg (a,b,c) (gA.mpr rfl);rw[<-e3,NB,<-e1];exact this
   |_::_::_,_,_,hz=>simp at hz
end
section
variable {prog:Program} {w:World} {A:Around} {E:Value->Shared->Prop} {s:Shared}
noncomputable def V8 (p:Keyed):Prop:=∃n t,p.1=Value.int n t
noncomputable def W8 (p:Keyed):Int:=numOf p.1
theorem yL:Od oneType' V8 W8 (model prog w) A E s:=λst x y Q hk hx hy h=>by
 obtain⟨⟨n,t,e1⟩,⟨m,u,e2⟩⟩:=And.intro hx hy;obtain⟨x1,x2⟩:=x;obtain⟨y1,y2⟩:=y;have e1:x1=Value.int n t:=e1;have e2:y1=Value.int m u:=e2;subst e1 e2;rw[lt'_eq];refine pA (wpS_get ?_);rw[hk,keyLt'_oneType];refine pA (wpS_lift (wpAny_attempt (oneLt_int ⟨rfl,?_⟩)));exact AA h
theorem nj {st:SortSt} {a₀:Array Keyed} {Q:Unit->SortSt->Prop} (h0:IntKeys a₀) (hB:SBase a₀ st) (h2:1<=a₀.size)
  (h:∀st',(arrOf st').Perm a₀->failedOf st'=none->SortedTo (arrOf st') a₀.size->Q () st'):wpS (model prog w) A E s sortRuns' Q st:=
 mj (kd:=oneType') (Ok:=V8) (rk:=W8) yL (λp hp=>h0 p hp) ⟨hB.perm,hB.kind,hB.failed,hB.pend⟩ h2 λst' a1 a2 a3=>h st' a1 a2 λi j hij hj=>by
  have:=a3 i j hij hj;rw[NB,NB] at this;exact this
theorem oj {a:Addr} {vs:List Value} {ns:List Int} {n:Nat} {P:Fin->Shared->Prop} (ho:s.heap.get? a=some (seqObj "list" vs.toArray n))
  (hI:IntsAre vs ns) (h64:vs.length<=sizeLine)
  (h:∀(out:Array Value) (ns':List Int),IntsAre out.toList ns'->ns'.Perm ns->ns'.Pairwise (·<=·)->P (.done (.ret .none)) {s with heap:=sortedHeap s.heap a vs out}):
  wpAny (model prog w) A (Builtin.«list.sort» ⟨[.ref a],[]⟩) P E s:=by
 rw[list_sort_plain];have ha:a < s.heap.objs.size:=GA ho;have hsz:vs.toArray.size=vs.length:=by simp
 refine jA (listItems_at ho rfl ?_);refine jA (listUpdate_at ho rfl ?_ (hsz:=by rw[hsz];exact h64) (hsz2:=bC _));obtain⟨e1,ho1⟩:∃e1,(s.heap.update a (Obj.mapSeq λο=> #[])).get? a=some (seqObj "list" #[] e1):=⟨_,get?_update_seq ho (λο=> #[])⟩
 refine jA (seqEpoch_at ho1 rfl ?_);refine jA (wpAny_newTuple ?_ (by exact h64));refine jA (wpAny_newList ?_);refine wpAny_holding ?_;have ho6:(((s.heap.update a (Obj.mapSeq λο=> #[])).push (seqObj "tuple" vs.toArray 0)).push (seqObj "list" #[] 0)).get? a=some (seqObj "list" #[] e1):=by
  rw[Heap.get?_push_ne _ _ _ (by rw[size_push',Heap.size_update];exact cB (Nat.lt_succ_of_lt ha)),Heap.get?_push_ne _ _ _ (by rw[Heap.size_update];exact cB ha)];exact ho1
 show wpAny (model prog w) A _ P E {s with heap:=((s.heap.update a (Obj.mapSeq λο=> #[])).push (seqObj "tuple" vs.toArray 0)).push (seqObj "list" #[] 0)};dsimp only;have fin:∀st':SortSt,(arrOf st').Perm (pairsOf vs)->SortedTo (arrOf st') (pairsOf vs).size->
   P (.done (.ret .none)) {s with heap:=sortedHeap s.heap a vs ((arrOf st').map (·.2))}:=by
  intro st' hp hs;obtain⟨ns',h1,h2,h3⟩:=sorted_out hI hp hs;exact h _ ns' h1 h2 h3
 by_cases h2:vs.toArray.size < 2
 ·rw[bA h2,bA h2];refine jA (OA ?_);rw[StateT.run_pure];refine jA (OA ?_);dsimp only;refine jA (seqEpoch_at ho6 rfl ?_);refine jA (listUpdate_at ho6 rfl ?_ (hsz2:=by rw[Array.size_map];show (pairsOf vs).size<=_;rw[pairsOf_size];exact Nat.le_succ_of_le h64));simp only[bne_self_eq_false,IA,wB];refine OA (fin (SortSt.mk' general' (vs.toArray.zip vs.toArray) #[] 7 none) (Array.Perm.refl _) ?_);intro i j hij hj;have:i=j:=by rw[pairsOf_size] at hj;omega
  subst this;exact aB _
 ·rw[aA h2,aA h2];obtain⟨v₁,v₂,rest,rfl⟩:∃v₁ v₂ rest,vs=v₁::v₂::rest:=by
   match vs,hsz,h2 with
   |[],_,h2=>simp at h2
   |[_],_,h2=>simp at h2
   |v₁::v₂::rest,_,_=>exact⟨v₁,v₂,rest,rfl⟩
  rw[keyKind_ints hI];refine jA (OA ?_);refine jA (rB (nj (a₀:=pairsOf (v₁::v₂::rest)) (st:=SortSt.mk' oneType' ((v₁::v₂::rest).toArray.zip (v₁::v₂::rest).toArray) #[] 7 none)
   (Q:=λο st'=>(arrOf st').Perm (pairsOf (v₁::v₂::rest))/\failedOf st'=none/\SortedTo (arrOf st') (pairsOf (v₁::v₂::rest)).size)
   hI.intKeys ⟨Array.Perm.refl _,rfl,rfl,rfl⟩ (by rw[pairsOf_size];simp) λst' a1 a2 a3=>⟨a1,a2,a3⟩) ?_ λο ο e=>e)
  rintro⟨⟨⟩,st'⟩ s' ⟨rfl,hp,hf,hs⟩;dsimp only;refine jA (seqEpoch_at ho6 rfl ?_);refine jA (listUpdate_at ho6 rfl ?_ (hsz2:=by refine YA (Nat.le_of_eq ((Array.size_map ..).trans (hp.size_eq.trans (pairsOf_size _)))) ?_;exact Nat.le_succ_of_le h64));rw[hf];simp only[bne_self_eq_false,IA,wB];exact OA (fin st' hp hs)
theorem sorted_src {T:String} {r d:Addr} {n:Nat} {P:Nat->Value->Prop} {OK:Heap->Prop} {Q:Value->Shared->Prop}
  (K:PySem.W.KdlSrc prog w T r d n P OK) (hh:A.handled=none) (hok:OK s.heap) (ns:List Int) (hn:n=ns.length) (h64:ns.length<=sizeLine)
  (hP:∀j v,P j v->∃t i,ns[j]?=some i/\v=Value.int i t)
  (h:∀(h1 h':Heap) (l:Addr) (tk:Nat) (out:Array Value) (e:Nat) (ms:List Int),(∀b o,s.heap.get? b=some o->h1.get? b=some o)->(∀b o,h1.get? b=some o->h'.get? b=some o)->h1.objs.size<=l->h'.get? l=some (seqObj "list" out e)->
   IntsAre out.toList ms->ms.Perm ns->ms.Pairwise (·<=·)->Q (.ref l) {s with heap:=h',toks:=tk}):
  wpAny (model prog w) A (call (.builtin "sorted") [.ref r]) Q E s:=by
 have hsz:n<=sizeLine:=by rw[hn];exact h64
 refine Calls.call_function_entry kind_sorted plain_sorted entry_sorted (args_sorted1 _) ?_;unfold Builtin.«sorted»;refine jA (m:=checkCount "sorted" 1 1 _) (OA ?_);refine jA (PySem.W.kdu_collect (A:=A.in1) K hh hok hsz λh' tk acc hk hacc=>?_);have hl:acc.toList.length=n:=by rw[EA];exact hacc.1
 have hI:IntsAre acc.toList ns:=j7 (by rw[hl,hn]) λj v e=>hP j v (hacc.2 j v (by rw[<-MA];exact e));refine jA (wpAny_newList ?_ (by rw[hl];exact hsz));have hoL:(h'.push (seqObj "list" acc.toList.toArray 0)).get? h'.objs.size=some (seqObj "list" acc.toList.toArray 0):=XA _ rfl;refine jA (wpAny_holding (wpAny_call_entry slot_list_sort ⟨_,hoL,rfl⟩ entry_list_sort (oj hoL hI (by rw[hl,hn];exact h64) λout ns' a1 a2 a3=>⟨_,rfl,?_⟩) (args_list_sort _)));obtain⟨e,he⟩:=sortedHeap_at (out:=out) hoL;refine OA ⟨_,rfl,h h' _ _ _ out e ns' hk (λb o hb=>?_) (iA _) he a1 a2 a3⟩;have hlt:=GA hb;rw[sortedHeap_old (cB hlt) (by rw[size_push'];exact Nat.lt_succ_of_lt hlt)];exact CA _ hb
end
end TS
theorem cI {X:Cx} (hc:X.calm=true):lE X (.builtin "sorted") (λxs H Q=>∃(p:Addr) (kvs:List (Key×V)) (ns:List Int),xs=[.ref p]/\Rd H p (.dK kvs)/\kvs.map (·.1)=ns.map Sum.inl/\
  ∀l ms,H l=none->List.Perm ms ns->ms.Pairwise (·<=·)->Q (.ref l) (yC H l (.lst (ms.map V.int)))):=by
 intro pins s σ H xs us Q I r h;obtain⟨p,kvs,ns,rfl,hq,hk,q⟩:=h;obtain⟨u,rfl,rx⟩:=BF r;cases rx;obtain⟨z,hd,vs,rel,dd⟩:=vI I.hok hq;obtain⟨ep,hat⟩:=dd.dictAt;have hlen:vs.length=ns.length:=by
  have:=congrArg List.length hk;rw[dA,dA] at this;rw[<-rel.length,this]
 have h64:ns.length<=sizeLine:=by rw[<-hlen,<-rel.length];exact z
 refine TS.sorted_src (PySem.W.kdl_dict (knd:=kD X.prog X.w) (kvs:=vs) (ep:=ep) hd) (I.ok.hd hc) hat ns hlen h64 (λj v hv=>?_) λh1 h' l tk out e ms k0 k1 k2 k3 a1 a2 a3=>?_
 ·obtain⟨k,x,hx,hk2⟩:=hv;obtain⟨v2,hv2,_⟩:=yJ rel j k x hx;have e1:(kvs.map (·.1))[j]?=some k:=by rw[UA,hv2];rfl
  rw[hk,UA] at e1;cases e2:ns[j]? with
  |none=>rw[e2] at e1;cases e1
  |some i=>
   rw[e2] at e1;cases e1;obtain⟨t,ev⟩:=Value.isInt_shape (k:=i) (v:=v) hk2;exact⟨t,i,rfl,ev⟩
 ·have hl:=a2.length_eq;have I1:wC X pins σ H {s with heap:=h1,toks:=tk}:=I.kept (t':=tk) k0;exact⟨.ref l,_,I1.laid (t':=tk) k1 k2 (show iD X.prog X.w _ _ _ (.lst (ms.map V.int)) from ⟨by rw[dA,hl];exact h64,out.toList,e,e7 a1,k3⟩),rfl,q _ _ (I1.hok.fresh k2) a2 a3⟩
end L2
namespace L2
open PySem PySem.Spec PyProof.Rows
namespace TS
section
variable {prog:Program} {w:World} {A:Around} {E:Value->Shared->Prop} {s:Shared}
end
end TS
end L2
set_option hygiene false in
local macro_rules| `(tactic|walk_at "wp")=> `(tactic|simp only[↓L2.fL, ↓L2.rO, ↓L2.iL, ↓L2.sO, ↓L2.jL,L2.AN,L2.tNext,L2.BK,L2.XG,L2.BN,L2.hJ,L2.CN,L2.j3,L2.mJ,L2.tB,L2.DN,L2.T3,L2.yK,L2.ZG,L2.tC,L2.rI,L2.qI,L2.rU,L2.yN,L2.Z2,L2.zN,L2.fJ,L2.gJ,L2.MG,L2.NG,L2.OG,L2.JT,L2.oJ,L2.tNil,L2.LH,L2.MN,L2.LN,L2.LK,L2.OI,L2.qO,L2.JN,L2.KN,L2.QH,L2.rEq,L2.rNe,L2.fE,L2.FN,L2.GN,L2.II,L2.PK,L2.aO,L2.QK,L2.RK,L2.ui,L2.rCatS,L2.Vh,L2.Wh,L2.Xh,L2.rIxH,L2.zh,L2.Th,L2.SC,L2.xf,L2.HO.ins.injEq,L2.RH,L2.rCat,L2.NN,L2.U4,L2.pJ,L2.tNoPart,L2.ai,L2.bi,L2.ci,L2.vJ,L2.kJ,L2.jJ,L2.tDNewK,L2.Z4,L2.ON,L2.rAppend,L2.rPop,L2.UH,L2.EJ,L2.FJ,L2.tYes,Option.join_some,Option.join_none,PySem.sizeLine_eq,Nat.reduceLeDiff,eq_self,kB,
 QA,KB,jB,List.length_nil,List.cons_append,XB,IB,List.replicate,Nat.reduceSub,Nat.reduceAdd,List.getElem?_cons_zero,List.getElem?_cons_succ,List.set_cons_zero,List.set_cons_succ,
 Option.some.injEq,List.cons.injEq,L2.V.int.injEq,L2.V.bl.injEq,L2.V.ref.injEq,L2.V.ty.injEq,L2.V.str.injEq,exists_eq_left,exists_eq_left',exists_and_left,exists_eq',exists_const,and_assoc,and_true,true_and, ↓reduceIte,Int.reduceLE,Int.reduceLT,Nat.reducePow,Int.reducePow,Int.reduceNeg,L2.bU,Nat.reduceLT,Int.reduceToNat,Int.reduceAdd,Int.reduceMul,Int.reduceSub,true_or,or_true,decide_true,decide_false])
noncomputable def PySem.W.Fast.tw2630501101224836663:PySem.Program:=PySem.Challenge.pw_frameland_k47_house_any_row
theorem PySem.W.Fast.te2630501101224836663:PySem.Challenge.pw_frameland_k47_house_any_row=PySem.W.Fast.tw2630501101224836663:=rfl
namespace Pf
open PySem L2
noncomputable def AC (i:Nat):Stmt:=PySem.Challenge.pw_frameland_k47_house_any_row.main.body.getD i (.Pass ⟨0,0,0,0⟩)
noncomputable abbrev xU:Stmt:=AC 13
theorem pj:qC ["thing"] ["thing"] (mC xU):=⟨rfl,rfl,rfl,∅,rfl,∅,∅⟩
noncomputable abbrev yU:Stmt:=AC 14
theorem qj:qC ["thing","low","high"] ["thing","low","high"] (mC yU):=⟨rfl,rfl,rfl,∅,rfl,∅,∅⟩
noncomputable abbrev zU:Stmt:=AC 30
theorem sS:qC ["exponent","power","doubling"] ["exponent"] (mC zU):=⟨rfl,rfl,rfl,∅,rfl,∅,∅⟩
noncomputable abbrev AU:Stmt:=AC 31
theorem rj:qC ["levels","fan","grain"] ["levels","fan","grain"] (mC AU):=⟨rfl,rfl,rfl,∅,rfl,∅,∅⟩
noncomputable abbrev BU:Stmt:=oC (AC 32) 0
theorem sj:qC ["self","levels","fan","grain"] ["self","levels","fan","grain"] (mC BU):=⟨rfl,rfl,rfl,∅,rfl,∅,∅⟩
noncomputable abbrev CU:Stmt:=oC (AC 32) 3
theorem tj:qC ["self","page"] ["self","page"] (mC CU):=⟨rfl,rfl,rfl,∅,rfl,∅,∅⟩
noncomputable abbrev DU:Stmt:=oC (AC 32) 10
theorem uj:qC ["self","first","many"] ["self","first","many"] (mC DU):=⟨rfl,rfl,rfl,∅,rfl,∅,∅⟩
noncomputable abbrev EU:Stmt:=AC 17
theorem vj:qC ["rights"] ["rights"] (mC EU):=⟨rfl,rfl,rfl,∅,rfl,∅,∅⟩
noncomputable abbrev FU:Stmt:=AC 18
theorem wj:qC ["run"] ["run"] (mC FU):=⟨rfl,rfl,rfl,∅,rfl,∅,∅⟩
noncomputable abbrev GU:Stmt:=AC 19
theorem X8:qC ["run","page","tie"] ["run","page"] (mC GU):=⟨rfl,rfl,rfl,∅,rfl,∅,∅⟩
noncomputable abbrev HU:Stmt:=AC 20
theorem Y8:qC ["run","low","high","first"] ["run","low","high"] (mC HU):=⟨rfl,rfl,rfl,∅,rfl,∅,∅⟩
noncomputable abbrev IU:Stmt:=AC 21
theorem xj:qC ["run","later"] ["run","later"] (mC IU):=⟨rfl,rfl,rfl,∅,rfl,∅,∅⟩
noncomputable abbrev JU:Stmt:=AC 22
theorem tS:qC ["runs","fewer","run","last"] ["runs"] (mC JU):=⟨rfl,rfl,rfl,∅,rfl,∅,∅⟩
noncomputable abbrev KU:Stmt:=oC (AC 23) 0
theorem yj:qC ["self"] ["self"] (mC KU):=⟨rfl,rfl,rfl,∅,rfl,∅,∅⟩
noncomputable abbrev ZI:Stmt:=oC (AC 23) 1
theorem zj:qC ["self","first","many","rights","tie"] ["self","first","many","rights","tie"] (mC ZI):=⟨rfl,rfl,rfl,∅,rfl,∅,∅⟩
noncomputable abbrev LU:Stmt:=oC (AC 23) 2
theorem Tj:qC ["self","first","many"] ["self","first","many"] (mC LU):=⟨rfl,rfl,rfl,∅,rfl,∅,∅⟩
noncomputable abbrev MU:Stmt:=oC (AC 23) 3
theorem Z8:qC ["self","first","many","rights","parts"] ["self","first","many","rights"] (mC MU):=⟨rfl,rfl,rfl,∅,rfl,∅,∅⟩
noncomputable abbrev NU:Stmt:=oC (AC 23) 4
theorem Uj:qC ["self","first","many"] ["self","first","many"] (mC NU):=⟨rfl,rfl,rfl,∅,rfl,∅,∅⟩
noncomputable abbrev OU:Stmt:=oC (AC 23) 7
theorem Vj:qC ["self","first","many"] ["self","first","many"] (mC OU):=⟨rfl,rfl,rfl,∅,rfl,∅,∅⟩
noncomputable abbrev PU:Stmt:=oC (AC 23) 8
theorem Wj:qC ["self","first","many"] ["self","first","many"] (mC PU):=⟨rfl,rfl,rfl,∅,rfl,∅,∅⟩
noncomputable abbrev QU:Stmt:=oC (AC 23) 9
theorem Xj:qC ["self","bank"] ["self","bank"] (mC QU):=⟨rfl,rfl,rfl,∅,rfl,∅,∅⟩
noncomputable abbrev RU:Stmt:=oC (AC 23) 12
theorem XM:qC ["self","page","low","high","middle"] ["self","page"] (mC RU):=⟨rfl,rfl,rfl,∅,rfl,∅,∅⟩
noncomputable abbrev SU:Stmt:=oC (AC 23) 13
theorem TU:qC ["self","first","many","end","near"] ["self","first","many"] (mC SU):=⟨rfl,rfl,rfl,∅,rfl,∅,∅⟩
noncomputable abbrev UU:Stmt:=oC (AC 23) 15
theorem zL:qC ["self","first","many","parts","end","low","high","near","ahead","behind"] ["self","first","many","parts"] (mC UU):=⟨rfl,rfl,rfl,∅,rfl,∅,∅⟩
noncomputable abbrev VU:Stmt:=oC (AC 23) 10
theorem Yj:qC ["self"] ["self"] (mC VU):=⟨rfl,rfl,rfl,∅,rfl,∅,∅⟩
noncomputable abbrev WU:Stmt:=oC (AC 23) 11
theorem i9:qC ["self","other"] ["self"] (mC WU):=⟨rfl,rfl,rfl,∅,rfl,∅,∅⟩
noncomputable abbrev XU:Stmt:=oC (AC 23) 14
theorem j9:qC ["self","page","parts"] ["self","page"] (mC XU):=⟨rfl,rfl,rfl,∅,rfl,∅,∅⟩
noncomputable abbrev YU:Stmt:=oC (AC 23) 5
theorem m9:qC ["self","page","part"] ["self","page"] (mC YU):=⟨rfl,rfl,rfl,∅,rfl,∅,∅⟩
noncomputable abbrev ZU:Stmt:=oC (AC 23) 6
theorem o9:qC ["self","page","part"] ["self","page"] (mC ZU):=⟨rfl,rfl,rfl,∅,rfl,∅,∅⟩
noncomputable abbrev aV:Stmt:=AC 26
theorem cV:qC ["numbers","number"] ["numbers"] (mC aV):=⟨rfl,rfl,rfl,∅,rfl,∅,∅⟩
noncomputable abbrev eV:Stmt:=oC (AC 27) 0
theorem Zj:qC ["self","shape"] ["self","shape"] (mC eV):=⟨rfl,rfl,rfl,∅,rfl,∅,∅⟩
noncomputable abbrev fV:Stmt:=oC (AC 27) 1
theorem q9:qC ["self","task"] ["self"] (mC fV):=⟨rfl,rfl,rfl,∅,rfl,∅,∅⟩
noncomputable abbrev hV:Stmt:=oC (AC 27) 4
theorem t9:qC ["self","many","bank"] ["self","many"] (mC hV):=⟨rfl,rfl,rfl,∅,rfl,∅,∅⟩
noncomputable abbrev iV:Stmt:=oC (AC 27) 5
theorem ak:qC ["self","bank"] ["self","bank"] (mC iV):=⟨rfl,rfl,rfl,∅,rfl,∅,∅⟩
noncomputable abbrev jV:Stmt:=oC (AC 27) 2
theorem u9:qC ["self","task","other"] ["self","task"] (mC jV):=⟨rfl,rfl,rfl,∅,rfl,∅,∅⟩
noncomputable abbrev lV:Stmt:=oC (AC 27) 3
theorem fk:qC ["self","task"] ["self","task"] (mC lV):=⟨rfl,rfl,rfl,∅,rfl,∅,∅⟩
noncomputable abbrev dI:Stmt:=oC (AC 27) 6
theorem uS:qC ["self","task","first","many","rights","bank","start","tie"] ["self","task","first","many","rights","bank","start"] (mC dI):=⟨rfl,rfl,rfl,∅,rfl,∅,∅⟩
noncomputable abbrev mV:Stmt:=oC (AC 27) 7
theorem gk:qC ["self","task","first","many"] ["self","task","first","many"] (mC mV):=⟨rfl,rfl,rfl,∅,rfl,∅,∅⟩
noncomputable abbrev nV:Stmt:=oC (AC 27) 8
theorem jk:qC ["self","task","first","many","rights"] ["self","task","first","many","rights"] (mC nV):=⟨rfl,rfl,rfl,∅,rfl,∅,∅⟩
noncomputable abbrev oV:Stmt:=oC (AC 27) 10
theorem pk:qC ["self"] ["self"] (mC oV):=⟨rfl,rfl,rfl,∅,rfl,∅,∅⟩
noncomputable abbrev pV:Stmt:=oC (AC 27) 11
theorem qk:qC ["self"] ["self"] (mC pV):=⟨rfl,rfl,rfl,∅,rfl,∅,∅⟩
noncomputable abbrev qV:Stmt:=oC (AC 27) 12
theorem uk:qC ["self","bank"] ["self","bank"] (mC qV):=⟨rfl,rfl,rfl,∅,rfl,∅,∅⟩
noncomputable abbrev rV:Stmt:=oC (AC 27) 13
theorem vk:qC ["self","task"] ["self","task"] (mC rV):=⟨rfl,rfl,rfl,∅,rfl,∅,∅⟩
noncomputable abbrev sV:Stmt:=oC (AC 27) 14
theorem wk:qC ["self","task","page"] ["self","task","page"] (mC sV):=⟨rfl,rfl,rfl,∅,rfl,∅,∅⟩
noncomputable abbrev tV:Stmt:=oC (AC 27) 15
theorem xk:qC ["self","task","page"] ["self","task","page"] (mC tV):=⟨rfl,rfl,rfl,∅,rfl,∅,∅⟩
noncomputable abbrev uV:Stmt:=oC (AC 27) 17
theorem yk:qC ["self","task"] ["self","task"] (mC uV):=⟨rfl,rfl,rfl,∅,rfl,∅,∅⟩
noncomputable abbrev vV:Stmt:=oC (AC 27) 18
theorem zk:qC ["self","bank"] ["self","bank"] (mC vV):=⟨rfl,rfl,rfl,∅,rfl,∅,∅⟩
noncomputable abbrev wV:Stmt:=oC (AC 27) 19
theorem Uk:qC ["self","task","first","many"] ["self","task","first","many"] (mC wV):=⟨rfl,rfl,rfl,∅,rfl,∅,∅⟩
noncomputable abbrev xV:Stmt:=oC (AC 27) 20
theorem Vk:qC ["self","bank","start","many"] ["self","bank","start","many"] (mC xV):=⟨rfl,rfl,rfl,∅,rfl,∅,∅⟩
noncomputable abbrev yV:Stmt:=AC 34
theorem Wk:qC ["_law_script","_law_k"] ["_law_script","_law_k"] (mC yV):=⟨rfl,rfl,rfl,∅,rfl,∅,∅⟩
noncomputable abbrev zV:Stmt:=AC 35
theorem AV:qC ["_law_cell","_law_k","_law_many","_law_prime","_law_mixed"] ["_law_cell","_law_k","_law_many"] (mC zV):=⟨rfl,rfl,rfl,∅,rfl,∅,∅⟩
noncomputable abbrev BV:Stmt:=AC 36
theorem Xk:qC ["_law_cell"] ["_law_cell"] (mC BV):=⟨rfl,rfl,rfl,∅,rfl,∅,∅⟩
noncomputable abbrev CV:Stmt:=AC 37
theorem vS:qC ["_law_times","_law_many","_law_k"] ["_law_times"] (mC CV):=⟨rfl,rfl,rfl,∅,rfl,∅,∅⟩
noncomputable abbrev DV:Stmt:=AC 38
theorem EV:qC ["_law_found","_law_due_here","_law_k"] ["_law_found","_law_due_here"] (mC DV):=⟨rfl,rfl,rfl,∅,rfl,∅,∅⟩
noncomputable abbrev FV:Stmt:=AC 39
theorem yI:qC ["_law_e","_law_word_here"] ["_law_e"] (mC FV):=⟨rfl,rfl,rfl,∅,rfl,∅,∅⟩
noncomputable abbrev GV:Stmt:=AC 40
theorem Yk:qC ["_law_house","_law_deed_here"] ["_law_house","_law_deed_here"] (mC GV):=⟨rfl,rfl,rfl,∅,rfl,∅,∅⟩
noncomputable abbrev HV:Stmt:=AC 41
theorem IV:qC ["_law_house","_law_deed_here","_law_found","_law_e"] ["_law_house","_law_deed_here"] (mC HV):=⟨rfl,rfl,rfl,∅,rfl,∅,∅⟩
noncomputable abbrev JV:Stmt:=AC 42
theorem LV:qC ["_law_numbers","_law_number"] ["_law_numbers"] (mC JV):=⟨rfl,rfl,rfl,∅,rfl,∅,∅⟩
noncomputable abbrev MV:Stmt:=AC 43
theorem TJ:qC ["_law_mine","_law_banks","_law_pages","_law_deed_here","_law_first","_law_many","_law_some","_law_there","_law_page"] ["_law_mine","_law_banks","_law_pages","_law_deed_here"] (mC MV):=⟨rfl,rfl,rfl,∅,rfl,∅,∅⟩
noncomputable abbrev NV:Stmt:=AC 44
theorem OV:qC ["_law_tasks","_law_bank","_law_mine","_law_one"] ["_law_tasks","_law_bank"] (mC NV):=⟨rfl,rfl,rfl,∅,rfl,∅,∅⟩
noncomputable abbrev PV:Stmt:=AC 45
theorem wS:qC ["_law_tasks","_law_banks","_law_pages","_law_deed_here","_law_task","_law_bank"] ["_law_tasks","_law_banks","_law_pages","_law_deed_here"] (mC PV):=⟨rfl,rfl,rfl,∅,rfl,∅,∅⟩
noncomputable abbrev QV:Stmt:=AC 46
theorem Zk:qC ["_law_last","_law_page","_law_one"] ["_law_last","_law_page","_law_one"] (mC QV):=⟨rfl,rfl,rfl,∅,rfl,∅,∅⟩
noncomputable abbrev RV:Stmt:=AC 47
theorem OO:qC ["_law_mine","_law_rows","_law_page","_law_one","_law_last"] ["_law_mine"] (mC RV):=⟨rfl,rfl,rfl,∅,rfl,∅,∅⟩
noncomputable abbrev SV:Stmt:=AC 48
theorem x9:qC ["_law_numbers","_law_cell","_law_more"] ["_law_numbers","_law_cell"] (mC SV):=⟨rfl,rfl,rfl,∅,rfl,∅,∅⟩
noncomputable abbrev TV:Stmt:=AC 49
theorem UV:qC ["_law_mine","_law_cell","_law_pages","_law_way","_law_many"] ["_law_mine","_law_cell","_law_pages"] (mC TV):=⟨rfl,rfl,rfl,∅,rfl,∅,∅⟩
noncomputable abbrev VV:Stmt:=AC 50
theorem aJ:qC ["_law_tasks","_law_banks","_law_pages","_law_cell","_law_kind","_law_task","_law_mine","_law_part","_law_rights","_law_bank"] ["_law_tasks","_law_banks","_law_pages","_law_cell"] (mC VV):=⟨rfl,rfl,rfl,∅,rfl,∅,∅⟩
noncomputable abbrev WV:Stmt:=AC 51
theorem bJ:qC ["_law_house","_law_tasks","_law_banks","_law_pages","_law_cell","_law_bank","_law_task","_law_mine","_law_k","_law_told","_law_page","_law_due_here"] ["_law_house","_law_tasks","_law_banks","_law_pages","_law_cell"] (mC WV):=⟨rfl,rfl,rfl,∅,rfl,∅,∅⟩
noncomputable abbrev XV:Stmt:=AC 52
theorem QO:qC ["_law_house","_law_task","_law_page","_law_what","_law_word_here","_law_e"] ["_law_house","_law_task","_law_page"] (mC XV):=⟨rfl,rfl,rfl,∅,rfl,∅,∅⟩
noncomputable abbrev xS:Stmt:=AC 53
theorem tH:qC ["_law_script","_law_fan","_law_levels","_law_pages","_law_house","_law_tasks","_law_banks","_law_cell","_law_deed_here","_law_due_here","_law_task","_law_stranger"] ["_law_script"] (mC xS):=⟨rfl,rfl,rfl,∅,rfl,∅,∅⟩
set_option genInjectivity false in
structure QD where
 Aa:Addr
 Af:Addr
 Ap:Addr
 Al:Addr
 Bf:Addr
 Ag:Addr
 Ad:Addr
 Ab:Addr
 Aj:Addr
 Ae:Addr
 Ak:Addr
 Ac:Addr
 Am:Addr
structure AD (K:W.Frag) (mg:Str->Option Value) (A:QD):Prop where
 Qz:mg "any"=none
 Jd:mg "bool"=none
 Rv:mg "dict"=none
 Oe:mg "int"=none
 Ao:mg "isinstance"=none
 Ba:mg "len"=none
 Je:mg "list"=none
 Q0:mg "max"=none
 Q1:mg "min"=none
 B4:mg "range"=none
 Bb:mg "sorted"=none
 Q2:mg "str"=none
 Sg:mg "sum"=none
 Ob:mg "tuple"=none
 K0:∃u,mg "MOST_RIGHTS"=some u/\FC (.int 3) u
 Jw:∃u,mg "MOST_IN_BANK"=some u/\FC (.int 64) u
 Gr:∃u,mg "MOST_IN_STRETCH"=some u/\FC (.int 64) u
 Of:EE K mg "is_whole" "is_whole" xU ["thing"] []
 Nh:EE K mg "is_within" "is_within" yU ["thing","low","high"] []
 Jx:EE K mg "power_of_two" "power_of_two" zU ["exponent"] []
 Hy:EE K mg "check_measures" "check_measures" AU ["levels","fan","grain"] []
 Jy:EE K mg "check_rights" "check_rights" EU ["rights"] []
 Pq:EE K mg "end_of" "end_of" FU ["run"] []
 Oh:EE K mg "tie_from" "tie_from" GU ["run","page"] []
 Os:EE K mg "part_of" "part_of" HU ["run","low","high"] []
 Ot:EE K mg "goes_on" "goes_on" IU ["run","later"] []
 Ps:EE K mg "joined" "joined" JU ["runs"] []
 Lf:EE K mg "least_free" "least_free" aV ["numbers"] []
 Ni:EE K mg "_law_cell_at" "_law_cell_at" yV ["_law_script","_law_k"] []
 Q3:EE K mg "_law_mix" "_law_mix" zV ["_law_cell","_law_k","_law_many"] []
 Ou:EE K mg "_law_value" "_law_value" BV ["_law_cell"] []
 Nj:EE K mg "_law_doubled" "_law_doubled" CV ["_law_times"] []
 Lg:EE K mg "_law_like" "_law_like" DV ["_law_found","_law_due_here"] []
 Pt:EE K mg "_law_word" "_law_word" FV ["_law_e"] []
 Q4:EE K mg "_law_say" "_law_say" GV ["_law_house","_law_deed_here"] []
 Oi:EE K mg "_law_answer" "_law_answer" HV ["_law_house","_law_deed_here"] []
 Ov:EE K mg "_law_least" "_law_least" JV ["_law_numbers"] []
 K1:EE K mg "_law_due_pages" "_law_due_pages" MV ["_law_mine","_law_banks","_law_pages","_law_deed_here"] []
 Pu:EE K mg "_law_tied" "_law_tied" NV ["_law_tasks","_law_bank"] []
 Q5:EE K mg "_law_due" "_law_due" PV ["_law_tasks","_law_banks","_law_pages","_law_deed_here"] []
 Nk:EE K mg "_law_goes_on" "_law_goes_on" QV ["_law_last","_law_page","_law_one"] []
 Jz:EE K mg "_law_told_pages" "_law_told_pages" RV ["_law_mine"] []
 Pw:EE K mg "_law_pick" "_law_pick" SV ["_law_numbers","_law_cell"] []
 Nm:EE K mg "_law_stretch" "_law_stretch" TV ["_law_mine","_law_cell","_law_pages"] []
 Px:EE K mg "_law_deed" "_law_deed" VV ["_law_tasks","_law_banks","_law_pages","_law_cell"] []
 Lh:EE K mg "_law_told_all" "_law_told_all" WV ["_law_house","_law_tasks","_law_banks","_law_pages","_law_cell"] []
 Nn:EE K mg "_law_no_task" "_law_no_task" XV ["_law_house","_law_task","_law_page"] []
 Ai:BG K A.Aa
 Ar:ID K A.Aa "runs"
 Ia:lH K mg "Stretches" A.Aa "Stretches.__init__" KU ["self"] []
 Jf:JF K A.Aa "put" "Stretches.put" ZI ["self","first","many","rights","tie"] []
 Py:JF K A.Aa "put" "Stretches.put" ZI ["self","first","many","rights","tie"] [.non]
 Jg:CD K A.Aa "cut" "Stretches.cut" LU ["self","first","many"] []
 Gs:CD K A.Aa "guard" "Stretches.guard" MU ["self","first","many","rights"] []
 C1:CD K A.Aa "check_full" "Stretches.check_full" NU ["self","first","many"] []
 Ep:CD K A.Aa "is_free" "Stretches.is_free" OU ["self","first","many"] []
 Er:CD K A.Aa "is_full" "Stretches.is_full" PU ["self","first","many"] []
 Es:CD K A.Aa "is_tied" "Stretches.is_tied" QU ["self","bank"] []
 B5:CD K A.Aa "place_behind" "Stretches.place_behind" RU ["self","page"] []
 C2:CD K A.Aa "parts_amid" "Stretches.parts_amid" SU ["self","first","many"] []
 Dx:CD K A.Aa "lay_amid" "Stretches.lay_amid" UU ["self","first","many","parts"] []
 Ib:CD K A.Aa "told" "Stretches.told" VU ["self"] []
 Fs:CD K A.Aa "copied" "Stretches.copied" WU ["self"] []
 Et:CD K A.Aa "part_at" "Stretches.part_at" XU ["self","page"] []
 Dm:CD K A.Aa "rights_at" "Stretches.rights_at" YU ["self","page"] []
 Ft:CD K A.Aa "tie_at" "Stretches.tie_at" ZU ["self","page"] []
 Ah:BG K A.Af
 Bs:ID K A.Af "shape"
 Aq:ID K A.Af "tasks"
 Ax:ID K A.Af "banks"
 Li:lH K mg "House" A.Af "House.__init__" eV ["self","shape"] []
 Ic:CD K A.Af "new_task" "House.new_task" fV ["self"] []
 Id:CD K A.Af "new_bank" "House.new_bank" hV ["self","many"] []
 Gu:CD K A.Af "drop_bank" "House.drop_bank" iV ["self","bank"] []
 Lj:CD K A.Af "fork" "House.fork" jV ["self","task"] []
 Ie:CD K A.Af "end_task" "House.end_task" lV ["self","task"] []
 No:JF K A.Af "lay" "House.lay" dI ["self","task","first","many","rights","bank","start"] []
 Rw:JF K A.Af "lay" "House.lay" dI ["self","task","first","many","rights","bank","start"] [.int 0]
 Lk:JF K A.Af "lay" "House.lay" dI ["self","task","first","many","rights","bank","start"] [.non,.int 0]
 Ll:CD K A.Af "lift" "House.lift" mV ["self","task","first","many"] []
 K2:CD K A.Af "guard" "House.guard" nV ["self","task","first","many","rights"] []
 Gv:CD K A.Af "task_list" "House.task_list" oV ["self"] []
 Gw:CD K A.Af "bank_list" "House.bank_list" pV ["self"] []
 Gx:CD K A.Af "bank_size" "House.bank_size" qV ["self","bank"] []
 Dy:CD K A.Af "stretches_of" "House.stretches_of" rV ["self","task"] []
 Gy:CD K A.Af "rights_at" "House.rights_at" sV ["self","task","page"] []
 J1:CD K A.Af "tie_at" "House.tie_at" tV ["self","task","page"] []
 Fu:CD K A.Af "check_task" "House.check_task" uV ["self","task"] []
 Fv:CD K A.Af "check_bank" "House.check_bank" vV ["self","bank"] []
 Do:CD K A.Af "check_stretch" "House.check_stretch" wV ["self","task","first","many"] []
 Bx:CD K A.Af "check_part_of_bank" "House.check_part_of_bank" xV ["self","bank","start","many"] []
 Bp:BG K A.Ap
 Cy:ID K A.Ap "levels"
 Fx:ID K A.Ap "fan"
 Dp:ID K A.Ap "grain"
 Eo:ID K A.Ap "ways"
 Dq:ID K A.Ap "boxes"
 Bn:ID K A.Ap "pages"
 Lm:lH K mg "Shape" A.Ap "Shape.__init__" BU ["self","levels","fan","grain"] []
 Ig:CD K A.Ap "has_page" "Shape.has_page" CU ["self","page"] []
 Ln:CD K A.Ap "fits" "Shape.fits" DU ["self","first","many"] []
 Rx:∃u,mg "FrameError"=some u/\FC (.ref A.Al) u
 Fy:XH K mg "FrameError" A.Al
 Sj:∃u,mg "NoShape"=some u/\FC (.ref A.Bf) u
 Fz:XC K mg "NoShape" A.Bf
 Pz:∃u,mg "NoTask"=some u/\FC (.ref A.Ag) u
 P0:XC K mg "NoTask" A.Ag
 Bg:XI K A.Ag
 Np:∃u,mg "OutOfRoom"=some u/\FC (.ref A.Ad) u
 Nq:XC K mg "OutOfRoom" A.Ad
 A5:XI K A.Ad
 Nr:∃u,mg "BadRights"=some u/\FC (.ref A.Ab) u
 Nt:XC K mg "BadRights" A.Ab
 A6:XI K A.Ab
 P1:∃u,mg "NoBank"=some u/\FC (.ref A.Aj) u
 P2:XC K mg "NoBank" A.Aj
 Bh:XI K A.Aj
 Nu:∃u,mg "OutOfBank"=some u/\FC (.ref A.Ae) u
 Ht:XC K mg "OutOfBank" A.Ae
 A7:XI K A.Ae
 Q6:∃u,mg "Taken"=some u/\FC (.ref A.Ak) u
 Q7:XC K mg "Taken" A.Ak
 Bj:XI K A.Ak
 Nv:∃u,mg "NotMapped"=some u/\FC (.ref A.Ac) u
 Nw:XC K mg "NotMapped" A.Ac
 A8:XI K A.Ac
 Ry:∃u,mg "Busy"=some u/\FC (.ref A.Am) u
 Rz:XC K mg "Busy" A.Am
 Br:XI K A.Am
 Dr:kF K A.Ag A.Al
 B6:kF K A.Ad A.Al
 B7:kF K A.Ab A.Al
 Ds:kF K A.Aj A.Al
 B8:kF K A.Ae A.Al
 Dz:kF K A.Ak A.Al
 B9:kF K A.Ac A.Al
 Eu:kF K A.Am A.Al
 Gz:W.kitOne K (.ref A.Ag) (.ref A.Ag)=some true
 D0:W.kitOne K (.ref A.Ag) (.ref A.Ad)=some false
 D3:W.kitOne K (.ref A.Ag) (.ref A.Ab)=some false
 G3:W.kitOne K (.ref A.Ag) (.ref A.Aj)=some false
 D4:W.kitOne K (.ref A.Ag) (.ref A.Ae)=some false
 Ih:W.kitOne K (.ref A.Ag) (.ref A.Ak)=some false
 D5:W.kitOne K (.ref A.Ag) (.ref A.Ac)=some false
 Jh:W.kitOne K (.ref A.Ag) (.ref A.Am)=some false
 D6:W.kitOne K (.ref A.Ad) (.ref A.Ag)=some false
 Cc:W.kitOne K (.ref A.Ad) (.ref A.Ad)=some true
 Cd:W.kitOne K (.ref A.Ad) (.ref A.Ab)=some false
 D7:W.kitOne K (.ref A.Ad) (.ref A.Aj)=some false
 Ce:W.kitOne K (.ref A.Ad) (.ref A.Ae)=some false
 Ev:W.kitOne K (.ref A.Ad) (.ref A.Ak)=some false
 Cf:W.kitOne K (.ref A.Ad) (.ref A.Ac)=some false
 F0:W.kitOne K (.ref A.Ad) (.ref A.Am)=some false
 D8:W.kitOne K (.ref A.Ab) (.ref A.Ag)=some false
 Cg:W.kitOne K (.ref A.Ab) (.ref A.Ad)=some false
 Ch:W.kitOne K (.ref A.Ab) (.ref A.Ab)=some true
 Ea:W.kitOne K (.ref A.Ab) (.ref A.Aj)=some false
 Ci:W.kitOne K (.ref A.Ab) (.ref A.Ae)=some false
 Ew:W.kitOne K (.ref A.Ab) (.ref A.Ak)=some false
 Cj:W.kitOne K (.ref A.Ab) (.ref A.Ac)=some false
 F1:W.kitOne K (.ref A.Ab) (.ref A.Am)=some false
 G4:W.kitOne K (.ref A.Aj) (.ref A.Ag)=some false
 Eb:W.kitOne K (.ref A.Aj) (.ref A.Ad)=some false
 Ec:W.kitOne K (.ref A.Aj) (.ref A.Ab)=some false
 G5:W.kitOne K (.ref A.Aj) (.ref A.Aj)=some true
 Ed:W.kitOne K (.ref A.Aj) (.ref A.Ae)=some false
 Ii:W.kitOne K (.ref A.Aj) (.ref A.Ak)=some false
 Ee:W.kitOne K (.ref A.Aj) (.ref A.Ac)=some false
 Ji:W.kitOne K (.ref A.Aj) (.ref A.Am)=some false
 Ef:W.kitOne K (.ref A.Ae) (.ref A.Ag)=some false
 Ck:W.kitOne K (.ref A.Ae) (.ref A.Ad)=some false
 Cl:W.kitOne K (.ref A.Ae) (.ref A.Ab)=some false
 Eg:W.kitOne K (.ref A.Ae) (.ref A.Aj)=some false
 Cm:W.kitOne K (.ref A.Ae) (.ref A.Ae)=some true
 Ex:W.kitOne K (.ref A.Ae) (.ref A.Ak)=some false
 Cn:W.kitOne K (.ref A.Ae) (.ref A.Ac)=some false
 F2:W.kitOne K (.ref A.Ae) (.ref A.Am)=some false
 Ij:W.kitOne K (.ref A.Ak) (.ref A.Ag)=some false
 Ey:W.kitOne K (.ref A.Ak) (.ref A.Ad)=some false
 Ez:W.kitOne K (.ref A.Ak) (.ref A.Ab)=some false
 Ik:W.kitOne K (.ref A.Ak) (.ref A.Aj)=some false
 E0:W.kitOne K (.ref A.Ak) (.ref A.Ae)=some false
 Jj:W.kitOne K (.ref A.Ak) (.ref A.Ak)=some true
 E1:W.kitOne K (.ref A.Ak) (.ref A.Ac)=some false
 J3:W.kitOne K (.ref A.Ak) (.ref A.Am)=some false
 Eh:W.kitOne K (.ref A.Ac) (.ref A.Ag)=some false
 Co:W.kitOne K (.ref A.Ac) (.ref A.Ad)=some false
 Cp:W.kitOne K (.ref A.Ac) (.ref A.Ab)=some false
 Ei:W.kitOne K (.ref A.Ac) (.ref A.Aj)=some false
 Cq:W.kitOne K (.ref A.Ac) (.ref A.Ae)=some false
 E2:W.kitOne K (.ref A.Ac) (.ref A.Ak)=some false
 Cr:W.kitOne K (.ref A.Ac) (.ref A.Ac)=some true
 F3:W.kitOne K (.ref A.Ac) (.ref A.Am)=some false
 Jk:W.kitOne K (.ref A.Am) (.ref A.Ag)=some false
 F4:W.kitOne K (.ref A.Am) (.ref A.Ad)=some false
 F5:W.kitOne K (.ref A.Am) (.ref A.Ab)=some false
 Jl:W.kitOne K (.ref A.Am) (.ref A.Aj)=some false
 F6:W.kitOne K (.ref A.Am) (.ref A.Ae)=some false
 J4:W.kitOne K (.ref A.Am) (.ref A.Ak)=some false
 F7:W.kitOne K (.ref A.Am) (.ref A.Ac)=some false
 K3:W.kitOne K (.ref A.Am) (.ref A.Am)=some true
 Sh:∃f fd,mg "law"=some (.ref f)/\sG K "law" "law" xS f fd/\∀(s:Shared) (u:Value),BindsTo s fd ⟨[u],[]⟩ [("_law_script",u)]
theorem xG {P:List Value->Prop} (h:∀a0,P [a0]):∀us:List Value,us.length=1->P us:=by
 intro us e;cases us with
 |nil=>cases e
 |cons a us=>
  cases us with
  |nil=>exact h a
  |cons b us=>exact absurd e (by simp)
theorem QF {P:List Value->Prop} (h:∀a0 a1,P [a0,a1]):∀us:List Value,us.length=2->P us:=by
 intro us e;cases us with
 |nil=>cases e
 |cons a us=>exact xG (P:=λus=>P (a::us)) (λb0=>h a b0) us (Nat.succ.inj e)
theorem RG {P:List Value->Prop} (h:∀a0 a1 a2,P [a0,a1,a2]):∀us:List Value,us.length=3->P us:=by
 intro us e;cases us with
 |nil=>cases e
 |cons a us=>exact QF (P:=λus=>P (a::us)) (λb0 b1=>h a b0 b1) us (Nat.succ.inj e)
theorem cJ {P:List Value->Prop} (h:∀a0 a1 a2 a3,P [a0,a1,a2,a3]):∀us:List Value,us.length=4->P us:=by
 intro us e;cases us with
 |nil=>cases e
 |cons a us=>exact RG (P:=λus=>P (a::us)) (λb0 b1 b2=>h a b0 b1 b2) us (Nat.succ.inj e)
theorem y9 {P:List Value->Prop} (h:∀a0 a1 a2 a3 a4,P [a0,a1,a2,a3,a4]):∀us:List Value,us.length=5->P us:=by
 intro us e;cases us with
 |nil=>cases e
 |cons a us=>exact cJ (P:=λus=>P (a::us)) (λb0 b1 b2 b3=>h a b0 b1 b2 b3) us (Nat.succ.inj e)
theorem el6x {P:List Value->Prop} (h:∀a0 a1 a2 a3 a4 a5,P [a0,a1,a2,a3,a4,a5]):∀us:List Value,us.length=6->P us:=by
 intro us e
 cases us with
 |nil=>cases e
 |cons a us=>exact y9 (P:=λus=>P (a::us)) (λb0 b1 b2 b3 b4=>h a b0 b1 b2 b3 b4) us (Nat.succ.inj e)
theorem el7x {P:List Value->Prop} (h:∀a0 a1 a2 a3 a4 a5 a6,P [a0,a1,a2,a3,a4,a5,a6]):∀us:List Value,us.length=7->P us:=by
 intro us e
 cases us with
 |nil=>cases e
 |cons a us=>exact el6x (P:=λus=>P (a::us)) (λb0 b1 b2 b3 b4 b5=>h a b0 b1 b2 b3 b4 b5) us (Nat.succ.inj e)
theorem bd4x {s fd ns ds} (h:∀a0 a1 a2 a3,BindsTo s fd {pos:=[a0,a1,a2,a3]} (List.zip ns ([a0,a1,a2,a3]++ds))):∀us,us.length=4->BindsTo s fd {pos:=us} (List.zip ns (us++ds)):=cJ (P:=λus=>BindsTo s fd {pos:=us} (List.zip ns (us++ds))) h
theorem bd5x {s fd ns ds} (h:∀a0 a1 a2 a3 a4,BindsTo s fd {pos:=[a0,a1,a2,a3,a4]} (List.zip ns ([a0,a1,a2,a3,a4]++ds))):∀us,us.length=5->BindsTo s fd {pos:=us} (List.zip ns (us++ds)):=y9 (P:=λus=>BindsTo s fd {pos:=us} (List.zip ns (us++ds))) h
theorem bd6x {s fd ns ds} (h:∀a0 a1 a2 a3 a4 a5,BindsTo s fd {pos:=[a0,a1,a2,a3,a4,a5]} (List.zip ns ([a0,a1,a2,a3,a4,a5]++ds))):∀us,us.length=6->BindsTo s fd {pos:=us} (List.zip ns (us++ds)):=el6x (P:=λus=>BindsTo s fd {pos:=us} (List.zip ns (us++ds))) h
theorem bd7x {s fd ns ds} (h:∀a0 a1 a2 a3 a4 a5 a6,BindsTo s fd {pos:=[a0,a1,a2,a3,a4,a5,a6]} (List.zip ns ([a0,a1,a2,a3,a4,a5,a6]++ds))):∀us,us.length=7->BindsTo s fd {pos:=us} (List.zip ns (us++ds)):=el7x (P:=λus=>BindsTo s fd {pos:=us} (List.zip ns (us++ds))) h
theorem AL {K:W.Frag} {h:Heap} {mg:Str->Option Value} (X:K.In h) (G:h.Ns mainGlobals mg)
 {Am Ac Ak Ae Aj Ab Ad Ag Bf Al Ap Af Aa:Addr}
 {t_MOST_RIGHTS:Tok}
 {t_MOST_IN_BANK:Tok}
 {t_MOST_IN_STRETCH:Tok}
 {f_0 tu_0:Addr} {od_0 an_0 ud_0:Option Addr} {sl_0 us_0:Array (Option Value)} {oc_0 kV_0 dc_0 pm_0 cd_0 ct_0 uo_0:Value} {un_0:Nat}
 {f_1 tu_1:Addr} {od_1 an_1 ud_1:Option Addr} {sl_1 us_1:Array (Option Value)} {oc_1 kV_1 dc_1 pm_1 cd_1 ct_1 uo_1:Value} {un_1:Nat} {td1_House_lay:Tok}
 {cd_FrameError:ClassData}
 (Ox:W.nsIn K mainGlobals "Busy"=some (some (.ref Am)))
 (Hu:W.nsIn K mainGlobals "NotMapped"=some (some (.ref Ac)))
 (Oc:W.nsIn K mainGlobals "Taken"=some (some (.ref Ak)))
 (Hv:W.nsIn K mainGlobals "OutOfBank"=some (some (.ref Ae)))
 (Lo:W.nsIn K mainGlobals "NoBank"=some (some (.ref Aj)))
 (Hw:W.nsIn K mainGlobals "BadRights"=some (some (.ref Ab)))
 (Hx:W.nsIn K mainGlobals "OutOfRoom"=some (some (.ref Ad)))
 (Lp:W.nsIn K mainGlobals "NoTask"=some (some (.ref Ag)))
 (Kz:W.nsIn K mainGlobals "NoShape"=some (some (.ref Bf)))
 (F8:W.nsIn K mainGlobals "FrameError"=some (some (.ref Al)))
 (Q8:W.nsIn K mainGlobals "Shape"=some (some (.ref Ap)))
 (Q9:W.nsIn K mainGlobals "House"=some (some (.ref Af)))
 (Nx:W.nsIn K mainGlobals "Stretches"=some (some (.ref Aa)))
 (R3:W.nsIn K mainGlobals "any"=some none)
 (Ra:W.nsIn K mainGlobals "bool"=some none)
 (Rb:W.nsIn K mainGlobals "dict"=some none)
 (R4:W.nsIn K mainGlobals "int"=some none)
 (K4:W.nsIn K mainGlobals "isinstance"=some none)
 (R5:W.nsIn K mainGlobals "len"=some none)
 (Rc:W.nsIn K mainGlobals "list"=some none)
 (R6:W.nsIn K mainGlobals "max"=some none)
 (R7:W.nsIn K mainGlobals "min"=some none)
 (P3:W.nsIn K mainGlobals "range"=some none)
 (Oy:W.nsIn K mainGlobals "sorted"=some none)
 (R8:W.nsIn K mainGlobals "str"=some none)
 (R9:W.nsIn K mainGlobals "sum"=some none)
 (P9:W.nsIn K mainGlobals "tuple"=some none)
 (Ka:W.nsIn K mainGlobals "MOST_RIGHTS"=some (some (.int 3 t_MOST_RIGHTS)))
 (Jm:W.nsIn K mainGlobals "MOST_IN_BANK"=some (some (.int 64 t_MOST_IN_BANK)))
 (F9:W.nsIn K mainGlobals "MOST_IN_STRETCH"=some (some (.int 64 t_MOST_IN_STRETCH)))
 (Oj:GF K "is_whole" xU)
 (Ny:GF K "is_within" yU)
 (Kb:GF K "power_of_two" zU)
 (Il:GF K "check_measures" AU)
 (Ke:GF K "check_rights" EU)
 (Qa:GF K "end_of" FU)
 (Ol:GF K "tie_from" GU)
 (Oz:GF K "part_of" HU)
 (O0:GF K "goes_on" IU)
 (Qb:GF K "joined" JU)
 (Lq:GF K "least_free" aV)
 (Nz:GF K "_law_cell_at" yV)
 (Re:GF K "_law_mix" zV)
 (O1:GF K "_law_value" BV)
 (N1:GF K "_law_doubled" CV)
 (Qc:GF K "_law_like" DV)
 (Qd:GF K "_law_word" FV)
 (Rf:GF K "_law_say" GV)
 (Om:GF K "_law_answer" HV)
 (O2:GF K "_law_least" JV)
 (K5:GF K "_law_due_pages" MV)
 (Qe:GF K "_law_tied" NV)
 (Rg:GF K "_law_due" PV)
 (N2:GF K "_law_goes_on" QV)
 (Kg:GF K "_law_told_pages" RV)
 (Qg:GF K "_law_pick" SV)
 (N3:GF K "_law_stretch" TV)
 (Qh:GF K "_law_deed" VV)
 (Lr:GF K "_law_told_all" WV)
 (N4:GF K "_law_no_task" XV)
 (N5:BG K Aa)
 (G6:W.findIn K (.ref Aa) "runs"=some none)
 (Im:IF K Aa "Stretches.__init__" KU)
 (Sa:W.findIn K (.ref Aa) "put"=some (some (.ref f_0)))
 (Sc:W.isFn K (.ref f_0)=true)
 (Sd:K.lookup f_0=some ⟨oc_0,od_0,.func (W.fnOf "put" "Stretches.put" (BC ZI) (zC ZI) (mC ZI) (.ref tu_0) kV_0 dc_0 pm_0 an_0 cd_0 ct_0),sl_0⟩)
 (Se:K.lookup tu_0=some ⟨uo_0,ud_0,.seq #[.none] un_0,us_0⟩)
 (Sf:W.codeIn K cd_0 "Stretches.put"=true)
 (On:W.keepIn K (.ref f_0)=true)
 (Jo:MF K Aa "cut" "Stretches.cut" LU)
 (G7:MF K Aa "guard" "Stretches.guard" MU)
 (C3:MF K Aa "check_full" "Stretches.check_full" NU)
 (E3:MF K Aa "is_free" "Stretches.is_free" OU)
 (E4:MF K Aa "is_full" "Stretches.is_full" PU)
 (E5:MF K Aa "is_tied" "Stretches.is_tied" QU)
 (Ca:MF K Aa "place_behind" "Stretches.place_behind" RU)
 (C4:MF K Aa "parts_amid" "Stretches.parts_amid" SU)
 (Ej:MF K Aa "lay_amid" "Stretches.lay_amid" UU)
 (Io:MF K Aa "told" "Stretches.told" VU)
 (Ga:MF K Aa "copied" "Stretches.copied" WU)
 (E6:MF K Aa "part_at" "Stretches.part_at" XU)
 (Dt:MF K Aa "rights_at" "Stretches.rights_at" YU)
 (Gb:MF K Aa "tie_at" "Stretches.tie_at" ZU)
 (Rh:BG K Af)
 (Kh:W.findIn K (.ref Af) "shape"=some none)
 (Ki:W.findIn K (.ref Af) "tasks"=some none)
 (Kj:W.findIn K (.ref Af) "banks"=some none)
 (Ls:IF K Af "House.__init__" eV)
 (Ip:MF K Af "new_task" "House.new_task" fV)
 (Iq:MF K Af "new_bank" "House.new_bank" hV)
 (G8:MF K Af "drop_bank" "House.drop_bank" iV)
 (Lu:MF K Af "fork" "House.fork" jV)
 (Ir:MF K Af "end_task" "House.end_task" lV)
 (Qi:W.findIn K (.ref Af) "lay"=some (some (.ref f_1)))
 (Qj:W.isFn K (.ref f_1)=true)
 (Qk:K.lookup f_1=some ⟨oc_1,od_1,.func (W.fnOf "lay" "House.lay" (BC dI) (zC dI) (mC dI) (.ref tu_1) kV_1 dc_1 pm_1 an_1 cd_1 ct_1),sl_1⟩)
 (Ql:K.lookup tu_1=some ⟨uo_1,ud_1,.seq #[.none,(.int 0 td1_House_lay)] un_1,us_1⟩)
 (Qm:W.codeIn K cd_1 "House.lay"=true)
 (Kk:W.keepIn K (.ref f_1)=true)
 (Lv:MF K Af "lift" "House.lift" mV)
 (K6:MF K Af "guard" "House.guard" nV)
 (G9:MF K Af "task_list" "House.task_list" oV)
 (Ha:MF K Af "bank_list" "House.bank_list" pV)
 (Hb:MF K Af "bank_size" "House.bank_size" qV)
 (Ek:MF K Af "stretches_of" "House.stretches_of" rV)
 (Hc:MF K Af "rights_at" "House.rights_at" sV)
 (Km:MF K Af "tie_at" "House.tie_at" tV)
 (Gc:MF K Af "check_task" "House.check_task" uV)
 (Ge:MF K Af "check_bank" "House.check_bank" vV)
 (Du:MF K Af "check_stretch" "House.check_stretch" wV)
 (By:MF K Af "check_part_of_bank" "House.check_part_of_bank" xV)
 (Ri:BG K Ap)
 (Jp:W.findIn K (.ref Ap) "levels"=some none)
 (Lw:W.findIn K (.ref Ap) "fan"=some none)
 (Ko:W.findIn K (.ref Ap) "grain"=some none)
 (K7:W.findIn K (.ref Ap) "ways"=some none)
 (Kp:W.findIn K (.ref Ap) "boxes"=some none)
 (Kq:W.findIn K (.ref Ap) "pages"=some none)
 (Lx:IF K Ap "Shape.__init__" BU)
 (Iu:MF K Ap "has_page" "Shape.has_page" CU)
 (Ly:MF K Ap "fits" "Shape.fits" DU)
 (K8:W.typeIn K (.ref Al)=some (.type "type"))
 (K9:W.clsIn K Al=some cd_FrameError)
 (La:W.mroIn K Al (.type "BaseException")=some true)
 (Oo:W.excIn K Bf JE "ValueError.__new__"=true)
 (O3:W.excIn K Ag JE "ValueError.__new__"=true)
 (O4:W.findIn K (.ref Ag) "__getattribute__"=some (some (.builtin "BaseException.__getattribute__")))
 (O5:W.findIn K (.ref Ag) "__getattr__"=some none)
 (O6:W.mroIn K Ag (.type "BaseException")=some true)
 (O7:W.hasDictIn K Ag=true)
 (O8:W.findIn K (.ref Ag) "__class__"=some (some (.builtin "object.__class__")))
 (O9:W.specialIn K (.builtin "object.__class__") "__get__"=some (some (.builtin "getset_descriptor.__get__")))
 (Pa:W.takesIn K (.builtin "object.__class__")=some true)
 (Pb:W.mroIn K Ag (.type "object")=some true)
 (Lz:W.excIn K Ad JE "ValueError.__new__"=true)
 (L7:W.findIn K (.ref Ad) "__getattribute__"=some (some (.builtin "BaseException.__getattribute__")))
 (L8:W.findIn K (.ref Ad) "__getattr__"=some none)
 (L9:W.mroIn K Ad (.type "BaseException")=some true)
 (Ma:W.hasDictIn K Ad=true)
 (Mb:W.findIn K (.ref Ad) "__class__"=some (some (.builtin "object.__class__")))
 (Mc:W.specialIn K (.builtin "object.__class__") "__get__"=some (some (.builtin "getset_descriptor.__get__")))
 (Md:W.takesIn K (.builtin "object.__class__")=some true)
 (Me:W.mroIn K Ad (.type "object")=some true)
 (Mf:W.excIn K Ab JE "ValueError.__new__"=true)
 (Mg:W.findIn K (.ref Ab) "__getattribute__"=some (some (.builtin "BaseException.__getattribute__")))
 (Mh:W.findIn K (.ref Ab) "__getattr__"=some none)
 (Mi:W.mroIn K Ab (.type "BaseException")=some true)
 (Mj:W.hasDictIn K Ab=true)
 (Ml:W.findIn K (.ref Ab) "__class__"=some (some (.builtin "object.__class__")))
 (Mm:W.specialIn K (.builtin "object.__class__") "__get__"=some (some (.builtin "getset_descriptor.__get__")))
 (Mn:W.takesIn K (.builtin "object.__class__")=some true)
 (Mo:W.mroIn K Ab (.type "object")=some true)
 (Pc:W.excIn K Aj JE "ValueError.__new__"=true)
 (Pd:W.findIn K (.ref Aj) "__getattribute__"=some (some (.builtin "BaseException.__getattribute__")))
 (Pe:W.findIn K (.ref Aj) "__getattr__"=some none)
 (Pg:W.mroIn K Aj (.type "BaseException")=some true)
 (Ph:W.hasDictIn K Aj=true)
 (Pi:W.findIn K (.ref Aj) "__class__"=some (some (.builtin "object.__class__")))
 (Pj:W.specialIn K (.builtin "object.__class__") "__get__"=some (some (.builtin "getset_descriptor.__get__")))
 (Pk:W.takesIn K (.builtin "object.__class__")=some true)
 (Pl:W.mroIn K Aj (.type "object")=some true)
 (Mp:W.excIn K Ae JE "ValueError.__new__"=true)
 (Mq:W.findIn K (.ref Ae) "__getattribute__"=some (some (.builtin "BaseException.__getattribute__")))
 (Mr:W.findIn K (.ref Ae) "__getattr__"=some none)
 (Ms:W.mroIn K Ae (.type "BaseException")=some true)
 (Mt:W.hasDictIn K Ae=true)
 (Mu:W.findIn K (.ref Ae) "__class__"=some (some (.builtin "object.__class__")))
 (Mv:W.specialIn K (.builtin "object.__class__") "__get__"=some (some (.builtin "getset_descriptor.__get__")))
 (Mw:W.takesIn K (.builtin "object.__class__")=some true)
 (Mx:W.mroIn K Ae (.type "object")=some true)
 (Qn:W.excIn K Ak JE "ValueError.__new__"=true)
 (Qo:W.findIn K (.ref Ak) "__getattribute__"=some (some (.builtin "BaseException.__getattribute__")))
 (Qp:W.findIn K (.ref Ak) "__getattr__"=some none)
 (Qq:W.mroIn K Ak (.type "BaseException")=some true)
 (Qr:W.hasDictIn K Ak=true)
 (Qs:W.findIn K (.ref Ak) "__class__"=some (some (.builtin "object.__class__")))
 (Qt:W.specialIn K (.builtin "object.__class__") "__get__"=some (some (.builtin "getset_descriptor.__get__")))
 (Qu:W.takesIn K (.builtin "object.__class__")=some true)
 (Qv:W.mroIn K Ak (.type "object")=some true)
 (My:W.excIn K Ac JE "ValueError.__new__"=true)
 (Mz:W.findIn K (.ref Ac) "__getattribute__"=some (some (.builtin "BaseException.__getattribute__")))
 (M0:W.findIn K (.ref Ac) "__getattr__"=some none)
 (M2:W.mroIn K Ac (.type "BaseException")=some true)
 (M3:W.hasDictIn K Ac=true)
 (M4:W.findIn K (.ref Ac) "__class__"=some (some (.builtin "object.__class__")))
 (M5:W.specialIn K (.builtin "object.__class__") "__get__"=some (some (.builtin "getset_descriptor.__get__")))
 (M6:W.takesIn K (.builtin "object.__class__")=some true)
 (M7:W.mroIn K Ac (.type "object")=some true)
 (Rj:W.excIn K Am JE "ValueError.__new__"=true)
 (Rk:W.findIn K (.ref Am) "__getattribute__"=some (some (.builtin "BaseException.__getattribute__")))
 (Rl:W.findIn K (.ref Am) "__getattr__"=some none)
 (Rm:W.mroIn K Am (.type "BaseException")=some true)
 (Ro:W.hasDictIn K Am=true)
 (Rp:W.findIn K (.ref Am) "__class__"=some (some (.builtin "object.__class__")))
 (Rq:W.specialIn K (.builtin "object.__class__") "__get__"=some (some (.builtin "getset_descriptor.__get__")))
 (Rr:W.takesIn K (.builtin "object.__class__")=some true)
 (Rs:W.mroIn K Am (.type "object")=some true)
 (El:W.mroIn K Ag (.ref Al)=some true)
 (Cs:W.mroIn K Ad (.ref Al)=some true)
 (Cu:W.mroIn K Ab (.ref Al)=some true)
 (Em:W.mroIn K Aj (.ref Al)=some true)
 (Cv:W.mroIn K Ae (.ref Al)=some true)
 (E7:W.mroIn K Ak (.ref Al)=some true)
 (Cw:W.mroIn K Ac (.ref Al)=some true)
 (Gf:W.mroIn K Am (.ref Al)=some true)
 (Iv:W.kitOne K (.ref Ag) (.ref Ag)=some true)
 (E8:W.kitOne K (.ref Ag) (.ref Ad)=some false)
 (E9:W.kitOne K (.ref Ag) (.ref Ab)=some false)
 (Iw:W.kitOne K (.ref Ag) (.ref Aj)=some false)
 (Fa:W.kitOne K (.ref Ag) (.ref Ae)=some false)
 (Jq:W.kitOne K (.ref Ag) (.ref Ak)=some false)
 (Fb:W.kitOne K (.ref Ag) (.ref Ac)=some false)
 (Ks:W.kitOne K (.ref Ag) (.ref Am)=some false)
 (Fc:W.kitOne K (.ref Ad) (.ref Ag)=some false)
 (C5:W.kitOne K (.ref Ad) (.ref Ad)=some true)
 (C6:W.kitOne K (.ref Ad) (.ref Ab)=some false)
 (Fd:W.kitOne K (.ref Ad) (.ref Aj)=some false)
 (C7:W.kitOne K (.ref Ad) (.ref Ae)=some false)
 (Gg:W.kitOne K (.ref Ad) (.ref Ak)=some false)
 (C8:W.kitOne K (.ref Ad) (.ref Ac)=some false)
 (He:W.kitOne K (.ref Ad) (.ref Am)=some false)
 (Fe:W.kitOne K (.ref Ab) (.ref Ag)=some false)
 (C9:W.kitOne K (.ref Ab) (.ref Ad)=some false)
 (Da:W.kitOne K (.ref Ab) (.ref Ab)=some true)
 (Ff:W.kitOne K (.ref Ab) (.ref Aj)=some false)
 (Db:W.kitOne K (.ref Ab) (.ref Ae)=some false)
 (Gh:W.kitOne K (.ref Ab) (.ref Ak)=some false)
 (Dc:W.kitOne K (.ref Ab) (.ref Ac)=some false)
 (Hg:W.kitOne K (.ref Ab) (.ref Am)=some false)
 (Ix:W.kitOne K (.ref Aj) (.ref Ag)=some false)
 (Fg:W.kitOne K (.ref Aj) (.ref Ad)=some false)
 (Fh:W.kitOne K (.ref Aj) (.ref Ab)=some false)
 (Iy:W.kitOne K (.ref Aj) (.ref Aj)=some true)
 (Fi:W.kitOne K (.ref Aj) (.ref Ae)=some false)
 (Jr:W.kitOne K (.ref Aj) (.ref Ak)=some false)
 (Fj:W.kitOne K (.ref Aj) (.ref Ac)=some false)
 (Kt:W.kitOne K (.ref Aj) (.ref Am)=some false)
 (Fk:W.kitOne K (.ref Ae) (.ref Ag)=some false)
 (De:W.kitOne K (.ref Ae) (.ref Ad)=some false)
 (Df:W.kitOne K (.ref Ae) (.ref Ab)=some false)
 (Fl:W.kitOne K (.ref Ae) (.ref Aj)=some false)
 (Dg:W.kitOne K (.ref Ae) (.ref Ae)=some true)
 (Gi:W.kitOne K (.ref Ae) (.ref Ak)=some false)
 (Dh:W.kitOne K (.ref Ae) (.ref Ac)=some false)
 (Hh:W.kitOne K (.ref Ae) (.ref Am)=some false)
 (Js:W.kitOne K (.ref Ak) (.ref Ag)=some false)
 (Gj:W.kitOne K (.ref Ak) (.ref Ad)=some false)
 (Gk:W.kitOne K (.ref Ak) (.ref Ab)=some false)
 (Jt:W.kitOne K (.ref Ak) (.ref Aj)=some false)
 (Gm:W.kitOne K (.ref Ak) (.ref Ae)=some false)
 (Ku:W.kitOne K (.ref Ak) (.ref Ak)=some true)
 (Gn:W.kitOne K (.ref Ak) (.ref Ac)=some false)
 (Lb:W.kitOne K (.ref Ak) (.ref Am)=some false)
 (Fm:W.kitOne K (.ref Ac) (.ref Ag)=some false)
 (Di:W.kitOne K (.ref Ac) (.ref Ad)=some false)
 (Dj:W.kitOne K (.ref Ac) (.ref Ab)=some false)
 (Fo:W.kitOne K (.ref Ac) (.ref Aj)=some false)
 (Dk:W.kitOne K (.ref Ac) (.ref Ae)=some false)
 (Go:W.kitOne K (.ref Ac) (.ref Ak)=some false)
 (Dl:W.kitOne K (.ref Ac) (.ref Ac)=some true)
 (Hi:W.kitOne K (.ref Ac) (.ref Am)=some false)
 (Kv:W.kitOne K (.ref Am) (.ref Ag)=some false)
 (Hj:W.kitOne K (.ref Am) (.ref Ad)=some false)
 (Hk:W.kitOne K (.ref Am) (.ref Ab)=some false)
 (Ky:W.kitOne K (.ref Am) (.ref Aj)=some false)
 (Hl:W.kitOne K (.ref Am) (.ref Ae)=some false)
 (Lc:W.kitOne K (.ref Am) (.ref Ak)=some false)
 (Hm:W.kitOne K (.ref Am) (.ref Ac)=some false)
 (M8:W.kitOne K (.ref Am) (.ref Am)=some true)
 (Si:GF K "law" xS)
 :∃A:QD,AD K mg A:=⟨⟨Aa,Af,Ap,Al,Bf,Ag,Ad,Ab,Aj,Ae,Ak,Ac,Am⟩,W.mg_none_of X G R3,
  W.mg_none_of X G Ra,
  W.mg_none_of X G Rb,
  W.mg_none_of X G R4,
  W.mg_none_of X G K4,
  W.mg_none_of X G R5,
  W.mg_none_of X G Rc,
  W.mg_none_of X G R6,
  W.mg_none_of X G R7,
  W.mg_none_of X G P3,
  W.mg_none_of X G Oy,
  W.mg_none_of X G R8,
  W.mg_none_of X G R9,
  W.mg_none_of X G P9,
  ⟨_,W.mg_of X G Ka,⟨_,rfl⟩⟩,
  ⟨_,W.mg_of X G Jm,⟨_,rfl⟩⟩,
  ⟨_,W.mg_of X G F9,⟨_,rfl⟩⟩,
  Oj.raw X G (λο ο ο ο ο ο=>xG (λο=>rfl)),
  Ny.raw X G (λο ο ο ο ο ο=>RG (λο ο ο=>rfl)),
  Kb.raw X G (λο ο ο ο ο ο=>xG (λο=>rfl)),
  Il.raw X G (λο ο ο ο ο ο=>RG (λο ο ο=>rfl)),
  Ke.raw X G (λο ο ο ο ο ο=>xG (λο=>rfl)),
  Qa.raw X G (λο ο ο ο ο ο=>xG (λο=>rfl)),
  Ol.raw X G (λο ο ο ο ο ο=>QF (λο ο=>rfl)),
  Oz.raw X G (λο ο ο ο ο ο=>RG (λο ο ο=>rfl)),
  O0.raw X G (λο ο ο ο ο ο=>QF (λο ο=>rfl)),
  Qb.raw X G (λο ο ο ο ο ο=>xG (λο=>rfl)),
  Lq.raw X G (λο ο ο ο ο ο=>xG (λο=>rfl)),
  Nz.raw X G (λο ο ο ο ο ο=>QF (λο ο=>rfl)),
  Re.raw X G (λο ο ο ο ο ο=>RG (λο ο ο=>rfl)),
  O1.raw X G (λο ο ο ο ο ο=>xG (λο=>rfl)),
  N1.raw X G (λο ο ο ο ο ο=>xG (λο=>rfl)),
  Qc.raw X G (λο ο ο ο ο ο=>QF (λο ο=>rfl)),
  Qd.raw X G (λο ο ο ο ο ο=>xG (λο=>rfl)),
  Rf.raw X G (λο ο ο ο ο ο=>QF (λο ο=>rfl)),
  Om.raw X G (λο ο ο ο ο ο=>QF (λο ο=>rfl)),
  O2.raw X G (λο ο ο ο ο ο=>xG (λο=>rfl)),
  K5.raw X G (λο ο ο ο ο ο=>cJ (λο ο ο ο=>rfl)),
  Qe.raw X G (λο ο ο ο ο ο=>QF (λο ο=>rfl)),
  Rg.raw X G (λο ο ο ο ο ο=>cJ (λο ο ο ο=>rfl)),
  N2.raw X G (λο ο ο ο ο ο=>RG (λο ο ο=>rfl)),
  Kg.raw X G (λο ο ο ο ο ο=>xG (λο=>rfl)),
  Qg.raw X G (λο ο ο ο ο ο=>QF (λο ο=>rfl)),
  N3.raw X G (λο ο ο ο ο ο=>RG (λο ο ο=>rfl)),
  Qh.raw X G (λο ο ο ο ο ο=>cJ (λο ο ο ο=>rfl)),
  Lr.raw X G (λο ο ο ο ο ο=>y9 (λο ο ο ο ο=>rfl)),
  N4.raw X G (λο ο ο ο ο ο=>RG (λο ο ο=>rfl)),
  N5,
  G6,
  Im.raw X G Nx (λο ο ο ο ο ο=>xG (λο=>rfl)),
  ⟨_,_,_,⟨Sa,Sc,On⟩,oO (st:=ZI) Sd Sf On,(pO 5 rfl λο us X_ hl=>bd5x (λο ο ο ο ο=>BindsTo.of_defaults rfl (X_ _ _ Se) rfl rfl rfl) us hl),.nil⟩,
  ⟨_,_,_,⟨Sa,Sc,On⟩,oO (st:=ZI) Sd Sf On,(pO 4 rfl λο us X_ hl=>bd4x (λο ο ο ο=>BindsTo.of_defaults rfl (X_ _ _ Se) rfl rfl rfl) us hl),.cons rfl (.nil)⟩,
  Jo.raw (λο ο ο ο ο ο=>RG (λο ο ο=>rfl)),
  G7.raw (λο ο ο ο ο ο=>cJ (λο ο ο ο=>rfl)),
  C3.raw (λο ο ο ο ο ο=>RG (λο ο ο=>rfl)),
  E3.raw (λο ο ο ο ο ο=>RG (λο ο ο=>rfl)),
  E4.raw (λο ο ο ο ο ο=>RG (λο ο ο=>rfl)),
  E5.raw (λο ο ο ο ο ο=>QF (λο ο=>rfl)),
  Ca.raw (λο ο ο ο ο ο=>QF (λο ο=>rfl)),
  C4.raw (λο ο ο ο ο ο=>RG (λο ο ο=>rfl)),
  Ej.raw (λο ο ο ο ο ο=>cJ (λο ο ο ο=>rfl)),
  Io.raw (λο ο ο ο ο ο=>xG (λο=>rfl)),
  Ga.raw (λο ο ο ο ο ο=>xG (λο=>rfl)),
  E6.raw (λο ο ο ο ο ο=>QF (λο ο=>rfl)),
  Dt.raw (λο ο ο ο ο ο=>QF (λο ο=>rfl)),
  Gb.raw (λο ο ο ο ο ο=>QF (λο ο=>rfl)),
  Rh,
  Kh,
  Ki,
  Kj,
  Ls.raw X G Q9 (λο ο ο ο ο ο=>QF (λο ο=>rfl)),
  Ip.raw (λο ο ο ο ο ο=>xG (λο=>rfl)),
  Iq.raw (λο ο ο ο ο ο=>QF (λο ο=>rfl)),
  G8.raw (λο ο ο ο ο ο=>QF (λο ο=>rfl)),
  Lu.raw (λο ο ο ο ο ο=>QF (λο ο=>rfl)),
  Ir.raw (λο ο ο ο ο ο=>QF (λο ο=>rfl)),
  ⟨_,_,_,⟨Qi,Qj,Kk⟩,oO (st:=dI) Qk Qm Kk,(pO 7 rfl λο us X_ hl=>bd7x (λο ο ο ο ο ο ο=>BindsTo.of_defaults rfl (X_ _ _ Ql) rfl rfl rfl) us hl),.nil⟩,
  ⟨_,_,_,⟨Qi,Qj,Kk⟩,oO (st:=dI) Qk Qm Kk,(pO 6 rfl λο us X_ hl=>bd6x (λο ο ο ο ο ο=>BindsTo.of_defaults rfl (X_ _ _ Ql) rfl rfl rfl) us hl),.cons ⟨_,rfl⟩ (.nil)⟩,
  ⟨_,_,_,⟨Qi,Qj,Kk⟩,oO (st:=dI) Qk Qm Kk,(pO 5 rfl λο us X_ hl=>bd5x (λο ο ο ο ο=>BindsTo.of_defaults rfl (X_ _ _ Ql) rfl rfl rfl) us hl),.cons rfl (.cons ⟨_,rfl⟩ (.nil))⟩,
  Lv.raw (λο ο ο ο ο ο=>cJ (λο ο ο ο=>rfl)),
  K6.raw (λο ο ο ο ο ο=>y9 (λο ο ο ο ο=>rfl)),
  G9.raw (λο ο ο ο ο ο=>xG (λο=>rfl)),
  Ha.raw (λο ο ο ο ο ο=>xG (λο=>rfl)),
  Hb.raw (λο ο ο ο ο ο=>QF (λο ο=>rfl)),
  Ek.raw (λο ο ο ο ο ο=>QF (λο ο=>rfl)),
  Hc.raw (λο ο ο ο ο ο=>RG (λο ο ο=>rfl)),
  Km.raw (λο ο ο ο ο ο=>RG (λο ο ο=>rfl)),
  Gc.raw (λο ο ο ο ο ο=>QF (λο ο=>rfl)),
  Ge.raw (λο ο ο ο ο ο=>QF (λο ο=>rfl)),
  Du.raw (λο ο ο ο ο ο=>cJ (λο ο ο ο=>rfl)),
  By.raw (λο ο ο ο ο ο=>cJ (λο ο ο ο=>rfl)),
  Ri,
  Jp,
  Lw,
  Ko,
  K7,
  Kp,
  Kq,
  Lx.raw X G Q8 (λο ο ο ο ο ο=>cJ (λο ο ο ο=>rfl)),
  Iu.raw (λο ο ο ο ο ο=>QF (λο ο=>rfl)),
  Ly.raw (λο ο ο ο ο ο=>RG (λο ο ο=>rfl)),
  ⟨_,W.mg_of X G F8,rfl⟩,
  ⟨W.mg_of X G F8,K8,⟨_,K9⟩,La⟩,
  ⟨_,W.mg_of X G Kz,rfl⟩,
  ⟨W.mg_of X G Kz,Oo⟩,
  ⟨_,W.mg_of X G Lp,rfl⟩,
  ⟨W.mg_of X G Lp,O3⟩,
  ⟨O4,O5,O6,O7,O8,O9,Pa,Pb⟩,
  ⟨_,W.mg_of X G Hx,rfl⟩,
  ⟨W.mg_of X G Hx,Lz⟩,
  ⟨L7,L8,L9,Ma,Mb,Mc,Md,Me⟩,
  ⟨_,W.mg_of X G Hw,rfl⟩,
  ⟨W.mg_of X G Hw,Mf⟩,
  ⟨Mg,Mh,Mi,Mj,Ml,Mm,Mn,Mo⟩,
  ⟨_,W.mg_of X G Lo,rfl⟩,
  ⟨W.mg_of X G Lo,Pc⟩,
  ⟨Pd,Pe,Pg,Ph,Pi,Pj,Pk,Pl⟩,
  ⟨_,W.mg_of X G Hv,rfl⟩,
  ⟨W.mg_of X G Hv,Mp⟩,
  ⟨Mq,Mr,Ms,Mt,Mu,Mv,Mw,Mx⟩,
  ⟨_,W.mg_of X G Oc,rfl⟩,
  ⟨W.mg_of X G Oc,Qn⟩,
  ⟨Qo,Qp,Qq,Qr,Qs,Qt,Qu,Qv⟩,
  ⟨_,W.mg_of X G Hu,rfl⟩,
  ⟨W.mg_of X G Hu,My⟩,
  ⟨Mz,M0,M2,M3,M4,M5,M6,M7⟩,
  ⟨_,W.mg_of X G Ox,rfl⟩,
  ⟨W.mg_of X G Ox,Rj⟩,
  ⟨Rk,Rl,Rm,Ro,Rp,Rq,Rr,Rs⟩,
  El,
  Cs,
  Cu,
  Em,
  Cv,
  E7,
  Cw,
  Gf,
  Iv,
  E8,
  E9,
  Iw,
  Fa,
  Jq,
  Fb,
  Ks,
  Fc,
  C5,
  C6,
  Fd,
  C7,
  Gg,
  C8,
  He,
  Fe,
  C9,
  Da,
  Ff,
  Db,
  Gh,
  Dc,
  Hg,
  Ix,
  Fg,
  Fh,
  Iy,
  Fi,
  Jr,
  Fj,
  Kt,
  Fk,
  De,
  Df,
  Fl,
  Dg,
  Gi,
  Dh,
  Hh,
  Js,
  Gj,
  Gk,
  Jt,
  Gm,
  Ku,
  Gn,
  Lb,
  Fm,
  Di,
  Dj,
  Fo,
  Dk,
  Go,
  Dl,
  Hi,
  Kv,
  Hj,
  Hk,
  Ky,
  Hl,
  Lc,
  Hm,
  M8,
  Si.law X G λο ο ο ο ο ο ο=>rfl⟩
section
variable {P:Program} {w:World} {K:W.Frag} {mg:Str->Option Value} {base:Heap} {A:QD}
theorem RC {t u:TS} {D:BE} {σ:L2.St} {H:Hp} (M:L2.St->Hp->Prop) (h1:t {D with nx:=M} σ H) (h2:∀(U:TS) (D':BE),U=u->D'=D->∀σ' H',M σ' H'->U D' σ' H'):bO t u .mk D σ H:=⟨M,h1,h2 u D rfl rfl⟩
noncomputable def sp_is_whole:Sp:=λvs H Q ο=>∃x,vs=[x]/\Kn H x/\Q (.bl (HF x)) H
theorem al (T:AD K mg A):KD P w K mg base "is_whole" 1 ["thing"] [] sp_is_whole:=by
 refine T.Of.have pj (λvs H Q E z=>?_) ?_
 ·obtain⟨x,rfl,_⟩:=z;rfl
 ·intro f cdv A' outer s H vs Q E hr z;obtain⟨x,rfl,hk,q⟩:=z;refine⟨_,(EC (YC (cH (SD mH rfl T.Ao sA (pC (nC 0) (pC (kH (n:="int") rfl T.Oe PyProof.Rows.boot_int) uC))) (pI (i3 (SD mH rfl T.Ao sA (pC (nC 0) (pC (kH (n:="bool") rfl T.Jd PyProof.Rows.boot_bool) uC)))))))),?_⟩;rfl';rw[<-yh hk] at q;refine⟨by decide,hk,?_⟩;cases e:FF "int" H x with
  |true=>rw[e] at q;exact qD ⟨by decide,hk,q⟩
  |false=>rw[e] at q;exact CC q
noncomputable def sp_is_within:Sp:=λvs H Q ο=>∃x l h,vs=[x,.int l,.int h]/\Kn H x/\Q (.bl (jE x l h)) H
theorem YM (T:AD K mg A):KD P w K mg base "is_within" 2 ["thing","low","high"] [] sp_is_within:=by
 have Op:=@al P w K mg base A T;refine T.Nh.have qj (λvs H Q E z=>?_) ?_
 ·obtain⟨x,l,h,rfl,_⟩:=z;rfl
 ·intro f cdv A' outer s H vs Q E hr z;obtain⟨x,l,h,rfl,hk,q⟩:=z;refine⟨_,(EC (YC (cH (lD Op (hr.mono (by decide)) KC (pC (nC 0) uC)) (pI (eg lJ lJ (nC 1) (nC 0) (nC 2)))))),?_⟩;unfold sp_is_whole;rfl';refine⟨hk,?_⟩;cases x with
  |int i=>
   refine qD ⟨i,rfl,?_⟩;rw[CH] at q;by_cases c:l<=i
   ·rw[kA c] at q;rw[bA c];exact⟨i,rfl,q⟩
   ·rw[yA c] at q;rw[aA c];exact q
  |_=>exact CC q
noncomputable def sp_power_of_two:Sp:=λvs H Q ο=>∃e:Int,vs=[.int e]/\0<=e/\e<=62/\Q (.int (pw e)) H
theorem gl (T:AD K mg A):KD P w K mg base "power_of_two" 1 ["exponent"] [] sp_power_of_two:=by
 refine T.Jx.have sS (λvs H Q E z=>?_) ?_
 ·obtain⟨e,rfl,_⟩:=z;rfl
 ·intro f cdv A' outer s H vs Q E hr z;obtain⟨e,rfl,h0,h1,q⟩:=z;refine⟨_,(NC (sD (i:=1) sS.nd rfl (Or.inl rfl) sC)
   (NC (DG WA rfl (BM rfl T.B4 (pC (nC 0) uC)) (pF (i:=2) sS.nd rfl (Or.inl rfl)) (EC (sD (i:=1) sS.nd rfl (Or.inl rfl) (ZC JI (nC 1) sC))))
   (EC (YC (nC 1))))),?_⟩
  rfl';refine⟨⋯,⋯,QM (λi σ H'=>∃v,σ=[some (.int e),some (.int (pw (i:Int))),v]/\H'=H) ⟨_,rfl,rfl⟩ (λi σ H' hi=>?_) (λσ H'=>?_)⟩
  ·rintro⟨v,rfl,rfl⟩;rfl';have hb:=c6 (n:=i) (m:=62) ⋯;have hp:=KR i;have e62:pw ((62:Nat):Int)=4611686018427387904:=by decide
   refine by first|exact (SK i).symm|exact⟨⋯,(SK i).symm⟩|(rw[SK];omega)|(trace_state;omega)
  ·rintro⟨v,rfl,rfl⟩;rfl';rw[show ((e.toNat:Nat):Int)=e by omega];exact q
inductive S9 (vs:List V) (H:Hp) (Q:VK) (E:XK):Prop where
 |mk (e:Int) (_:vs=[.int e]) (_:0<=e) (_:e<=62) (_:Q (.int (pw e)) H):S9 vs H Q E
noncomputable def sp_l_doubled:Sp:=S9
theorem il (T:AD K mg A):KD P w K mg base "_law_doubled" 1 ["_law_times"] [] sp_l_doubled:=by
 refine T.Nj.have vS (λvs H Q E z=>?_) ?_
 ·obtain⟨e,rfl,_⟩:=z;rfl
 ·intro f cdv A' outer s H vs Q E hr z;obtain⟨e,rfl,h0,h1,q⟩:=z;refine⟨_,(NC (sD (i:=1) vS.nd rfl (Or.inl rfl) sC)
   (NC (DG WA rfl (BM rfl T.B4 (pC (nC 0) uC)) (pF (i:=2) vS.nd rfl (Or.inl rfl)) (EC (sD (i:=1) vS.nd rfl (Or.inl rfl) (ZC YE (nC 1) (nC 1)))))
   (EC (YC (nC 1))))),?_⟩
  rfl';refine⟨⋯,⋯,QM (λi σ H'=>∃v,σ=[some (.int e),some (.int (pw (i:Int))),v]/\H'=H) ⟨_,rfl,rfl⟩ (λi σ H' hi=>?_) (λσ H'=>?_)⟩
  ·rintro⟨v,rfl,rfl⟩;rfl';have hb:=c6 (n:=i) (m:=62) ⋯;have hp:=KR i;have e62:pw ((62:Nat):Int)=4611686018427387904:=by decide
   refine by first|exact (SK i).symm|exact⟨⋯,(SK i).symm⟩|(rw[SK];omega)|(trace_state;omega)
  ·rintro⟨v,rfl,rfl⟩;rfl';rw[show ((e.toNat:Nat):Int)=e by omega];exact q
noncomputable def RF (x y z:V):Bool:=jE x 2 3&&jE y 1 8&&jE z 0 4
theorem jl {l f g:Int} (h:RF (.int l) (.int f) (.int g)=true):2<=l/\l<=3/\1<=f/\f<=8/\0<=g/\g<=4:=by
 unfold RF at h;simp only[CH,ZA,kB] at h;omega
theorem ll {l f g:Int} (h:2<=l/\l<=3/\1<=f/\f<=8/\0<=g/\g<=4):RF (.int l) (.int f) (.int g)=true:=by
 unfold RF;simp only[CH,ZA,kB];omega
noncomputable def T9 (N:Addr):Sp:=λvs H Q E=>∃x y z,vs=[x,y,z]/\Kn H x/\Kn H y/\Kn H z/\if RF x y z=true then Q .non H else E (.ref N) none H
theorem ml (T:AD K mg A):KD P w K mg base "check_measures" 3 ["levels","fan","grain"] [] (T9 A.Bf):=by
 have Av:=@YM P w K mg base A T;refine T.Hy.have rj (λvs H Q E z=>?_) ?_
 ·obtain⟨x,y,z,rfl,_⟩:=z;rfl
 ·intro f cdv A' outer s H vs Q E hr z;obtain⟨x,y,z,rfl,hx,hy,hz,q⟩:=z;refine⟨_,(NC (eD (ZF (xE (lD Av (hr.mono (by decide)) KC (pC (nC 0) (pC sC (pC sC uC)))))) (EC (BH AH rfl T.Fz (pC wD uC))) fD)
   (NC (eD (ZF (xE (lD Av (hr.mono (by decide)) KC (pC (nC 1) (pC sC (pC sC uC)))))) (EC (BH AH rfl T.Fz (pC wD uC))) fD)
   (EC (eD (ZF (xE (lD Av (hr.mono (by decide)) KC (pC (nC 2) (pC sC (pC sC uC)))))) (EC (BH AH rfl T.Fz (pC wD uC))) fD)))),?_⟩
  unfold sp_is_within;rfl';unfold RF at q;simp only[hx,hy,hz,true_and];cases e1:jE x 2 3<;>cases e2:jE y 1 8<;>cases e3:jE z 0 4<;>simp only[e1,e2,e3,Bool.and_true,Bool.and_false,Bool.true_and,dC,Bool.not_true,Bool.not_false,PB,wB,IA, ↓reduceIte] at q ⊢<;>exact q
noncomputable def dJ (l f g:Int):List (Str×V):=RD "pages" (.int (pw (l * f))) (RD "boxes" (.int (pw g)) (RD "ways" (.int (pw f)) (RD "grain" (.int g) (RD "fan" (.int f) (RD "levels" (.int l) [])))))
noncomputable def fI (C N:Addr):Sp:=λvs H Q E=>∃(p dx:Addr) (x y z:V),vs=[.ref p,x,y,z]/\H p=some (.ins C dx [])/\Kn H x/\Kn H y/\Kn H z/\
 if RF x y z=true then ∃l f g:Int,x=.int l/\y=.int f/\z=.int g/\Q .non (yC H p (.ins C dx (dJ l f g))) else E (.ref N) none H
theorem BL (T:AD K mg A):DF P w K mg base "Shape" A.Ap 4 ["self","levels","fan","grain"] [] (fI A.Ap A.Bf):=by
 have Iz:=@ml P w K mg base A T;have Bt:=@gl P w K mg base A T;refine T.Lm.have sj (λvs H Q E z=>?_) ?_
 ·obtain⟨p,dx,x,y,z,rfl,_⟩:=z;rfl
 ·intro f cdv A' outer s H vs Q E hr z;obtain⟨p,dx,x,y,z,rfl,hp,hx,hy,hz,q⟩:=z;refine⟨_,(NC (uE (lD Iz (hr.mono (by decide)) KC (pC (nC 1) (pC (nC 2) (pC (nC 3) uC)))))
   (NC (yH (nC 0) (nC 1) rfl)
   (NC (yH (nC 0) (nC 2) rfl)
   (NC (yH (nC 0) (nC 3) rfl)
   (NC (yH (nC 0) (lD Bt (hr.mono (by decide)) KC (pC (nC 2) uC)) rfl)
   (NC (yH (nC 0) (lD Bt (hr.mono (by decide)) KC (pC (nC 3) uC)) rfl)
   (EC (yH (nC 0) (lD Bt (hr.mono (by decide)) KC (pC (ZC JI (nC 1) (nC 2)) uC)) rfl)))))))),?_⟩
  unfold T9 sp_power_of_two;rfl';simp only[hx,hy,hz,hp,T.Bp,T.Cy,T.Fx,T.Dp,T.Eo,T.Dq,T.Bn,true_and];rfl';simp only[T.Bp,T.Cy,T.Fx,T.Dp,T.Eo,T.Dq,T.Bn,true_and];refine VC (λhg=>?_) (λhg=>?_)
  ·rw[bA hg] at q;obtain⟨l,f',g,rfl,rfl,rfl,q⟩:=q;have b:=jl hg;have m:=UK b.1 b.2.1 b.2.2.1 b.2.2.2.1;rfl'
   repeat' (refine And.intro ?_ ?_)
   all_goals first|omega|exact q|(refine JA (?_:_ < 9) (by decide);repeat (first|exact Nat.zero_lt_succ _|refine i6 ?_))
  ·rw[aA hg] at q;exact q
theorem nl {l f g:Int}:(dJ l f g).lookup ("pages":Str)=some (.int (pw (l * f))):=by rfl
theorem yS {l f g:Int} {m:Str} (h:¬m∈(["levels","fan","grain","ways","boxes","pages"]:List Str)):(dJ l f g).lookup m=none:=by
 simp only[wA,AB,or_false,not_or] at h;unfold dJ;simp only[IN,h,wB]
 rfl
noncomputable def GE (C:Addr) (H:Hp) (p:Addr) (l f g:Int):Prop:=∃dx,H p=some (.ins C dx (dJ l f g))
theorem GE.same {C:Addr} {H H':Hp} {p:Addr} {l f g:Int} (h:GE C H p l f g) (s:vC H H'):GE C H' p l f g:=let ⟨dx,e⟩:=h;⟨dx,s _ _ e⟩
noncomputable def V9 (C:Addr):Sp:=λvs H Q ο=>∃(p:Addr) (x l f g:Int),vs=[.ref p,.int x]/\GE C H p l f g/\Q (.bl (decide (0<=x)&&decide (x<=pw (l * f) - 1))) H
theorem RO (T:AD K mg A):TC P w K mg base A.Ap "has_page" 3 ["self","page"] [] (V9 A.Ap):=by
 have Av:=@YM P w K mg base A T;refine T.Ig.have tj (λvs H Q E z=>?_) ?_
 ·obtain⟨p,x,l,f,g,rfl,_⟩:=z;rfl
 ·intro f cdv A' outer s H vs Q E hr z;obtain⟨p,x,l,f',g,rfl,⟨dx,hp⟩,q⟩:=z;refine⟨_,(EC (YC (lD Av (hr.mono (by decide)) KC (pC (nC 1) (pC sC (pC (ZC YG (HE (nC 0) rfl) sC) uC)))))),?_⟩;unfold sp_is_within;rfl';simp only[hp,T.Bp,T.Bn,true_and];rfl';simp only[T.Bp,T.Bn,nl,true_and];rfl';exact q
noncomputable def oE (x m p:Int):Bool:=decide (0<=x/\x < p/\1<=m/\m<=64/\x+m - 1 < p)
noncomputable def W9 (C:Addr):Sp:=λvs H Q ο=>∃(p:Addr) (x m l f g:Int),vs=[.ref p,.int x,.int m]/\GE C H p l f g/\Q (.bl (oE x m (pw (l * f)))) H
theorem CL (T:AD K mg A):TC P w K mg base A.Ap "fits" 4 ["self","first","many"] [] (W9 A.Ap):=by
 have Av:=@YM P w K mg base A T;have Cb:=@RO P w K mg base A T;refine T.Ln.have uj (λvs H Q E z=>?_) ?_
 ·obtain⟨p,x,m,l,f,g,rfl,_⟩:=z;rfl
 ·intro f cdv A' outer s H vs Q E hr z;obtain⟨p,x,m,l,f',g,rfl,hS,q⟩:=z;refine⟨_,(EC (YC (cH (TD (nC 0) T.Bp Cb (hr.mono (by decide)) KC (pC (nC 1) uC)) (cH (lD Av (hr.mono (by decide)) KC (pC (nC 2) (pC sC (pC (PH rfl T.Gr) uC)))) (pI (TD (nC 0) T.Bp Cb (hr.mono (by decide)) KC (pC (ZC YG (ZC YE (nC 1) (nC 2)) sC) uC))))))),?_⟩;unfold sp_is_within V9;rfl';obtain⟨dx,hp⟩:=id hS;simp only[hp];rfl';refine⟨yS ∅,l,f',g,hS,?_⟩;generalize hN:pw (l * f')=N at q ⊢;by_cases c:0<=x/\x<=N - 1
  ·rw[kA c.1,kA c.2];refine qD ?_;rw[CH];by_cases d:1<=m/\m<=64
   ·rw[kA d.1,kA d.2];refine qD ⟨yS ∅,l,f',g,hS,?_⟩;have e2:(decide (0<=x+m - 1)&&decide (x+m - 1<=pw (l * f') - 1))=oE x m N:=by
     unfold oE;rw[yB];simp only[ZA,kB];omega
    rw[e2];exact q
   ·have e:(decide (1<=m)&&decide (m<=64))=false:=by
     rw[JB];simp only[ne_eq,ZA,kB];exact d
    rw[e];refine CC ?_;have e2:oE x m N=false:=yA ⋯;rw[e2] at q;exact q
  ·have e:(decide (0<=x)&&decide (x<=N - 1))=false:=by
    rw[JB];simp only[ne_eq,ZA,kB];exact c
   rw[e];refine CC ?_;have e2:oE x m N=false:=yA ⋯;rw[e2] at q;exact q
inductive X9 (K:W.Frag) (a:Addr) (ns:List Int) (vs:List V) (H:Hp) (Q:VK) (E:XK):Prop where
 |mk (k:Int) (_:vs=[.ref a,.int k]) (_:aD K H a (ns.map V.int)) (_:0<=k) (_:Q (.int (ns.getD k.toNat 0)) H):X9 K a ns vs H Q E
noncomputable def ql (K:W.Frag) (a:Addr) (ns:List Int):Sp:=X9 K a ns
theorem DL (T:AD K mg A) (a:Addr) (ns:List Int):KD P w K mg base "_law_cell_at" 1 ["_law_script","_law_k"] [] (ql K a ns):=by
 refine T.Ni.have Wk (λvs H Q E z=>?_) ?_
 ·obtain⟨k,rfl,_⟩:=z;rfl
 ·intro f cdv A' outer s H vs Q E hr z;obtain⟨k,rfl,hs,hk,q⟩:=z;refine⟨_,(NC (eD (tD UF (nC 1) (SD KI rfl T.Ba PySem.boot_len (pC (nC 0) uC)) (rC _)) (EC (YC (MC uI (nC 0) (nC 1) (λο ο=>rfl)))) fD)
   (EC (YC sC))),?_⟩
  rfl';refine⟨ns.length,.inl ⟨_,hs,by simp⟩,?_⟩;by_cases c:k < (ns.length:Int)
  ·rw[bA c];refine⟨_,hs,.int (ns.getD k.toNat 0),?_,q⟩;have hlt:k.toNat < ns.length:=⋯;have e:gH (ns.map V.int) ((k.toNat:Nat):Int)=some (.int (ns.getD k.toNat 0)):=JD (by simp[hlt]);rw[show ((k.toNat:Nat):Int)=k by omega] at e;exact e
  ·rw[aA c];have hge:ns.length<=k.toNat:=⋯;rw[show ns.getD k.toNat 0=0 by simp[List.getD,hge]] at q;exact q
theorem pG {H H':Hp} {t:Addr} {o:HO} (s:vC H H') (h:H t=none):vC H (yC H' t o):=λb u e=>by
 rw[WC (AE e h)];exact s b u e
theorem YV {H H':Hp} {p:Addr} (s:vC H H') (h:H' p=none):H p=none:=by
 cases e:H p with
 |none=>rfl
 |some o=>rw[s p o e] at h;cases h
structure Rn where
 f:Int
 m:Int
 r:Int
 t:Option (Int×Int)
 deriving DecidableEq
noncomputable def IC (r:Rn):Int:=r.f+r.m
noncomputable def tf (r:Rn) (p:Int):Option (Int×Int):=r.t.map λt=>(t.1,t.2+p - r.f)
noncomputable def rE (r:Rn) (lo hi:Int):Rn:=⟨max r.f lo,min (IC r) hi - max r.f lo,r.r,tf r (max r.f lo)⟩
noncomputable def go (r s:Rn):Bool:=decide (IC r=s.f)&&decide (r.r=s.r)&&decide (tf r s.f=s.t)
noncomputable def XD (acc:List Rn) (r:Rn):List Rn:=
 match acc.getLast? with
 |none=>acc++[r]
 |some l=>if go l r=true then acc.dropLast++[⟨l.f,l.m+r.m,l.r,l.t⟩] else acc++[r]
noncomputable def jn (rs:List Rn):List Rn:=rs.foldl XD []
noncomputable def pb (rs:List Rn) (p:Int):Nat:=(rs.takeWhile λr=>decide (IC r<=p)).length
noncomputable def sE (rs:List Rn) (lo hi:Nat):List Rn:=(rs.take hi).drop lo
noncomputable def aE (rs:List Rn) (a n:Int):List Rn:=((sE rs (pb rs a) (pb rs (a+n)+1)).filter λr=>decide (r.f < a+n)).map λr=>rE r a (a+n)
noncomputable def ZD (rs:List Rn) (a n:Int) (parts:List Rn):List Rn:=
 let near:=sE rs (pb rs (a - 1)) (pb rs (a+n)+1)
 rs.take (pb rs (a - 1))++jn ((near.filter λr=>decide (r.f < a)).map (λr=>rE r r.f a)++parts++(near.filter λr=>decide (IC r > a+n)).map (λr=>rE r (a+n) (IC r)))++rs.drop (pb rs (a+n)+1)
noncomputable def pm:List Rn->Int->Option (Int×Option (Int×Int))
 |[],_=>none
 |r::rs,p=>if r.f<=p/\p < IC r then some (r.r,tf r p) else pm rs p
noncomputable def HC (rs:List Rn):Prop:=rs.Pairwise (λa b=>IC a<=b.f)/\∀r∈rs,0 < r.m
noncomputable def DD:List Rn->Prop
 |[]=>True
 |[_]=>True
 |a::b::r=>go a b=false/\DD (b::r)
theorem HC.tail {r:Rn} {rs:List Rn} (h:HC (r::rs)):HC rs:=⟨(List.pairwise_cons.mp h.1).2,λx hx=>h.2 x (fA _ hx)⟩
theorem HC.head {r:Rn} {rs:List Rn} (h:HC (r::rs)):∀s∈rs,IC r<=s.f:=(List.pairwise_cons.mp h.1).1
theorem DD.tail {r:Rn} {rs:List Rn} (h:DD (r::rs)):DD rs:=by
 cases rs with
 |nil=>exact True.intro
 |cons s rs=>exact h.2
theorem SO {p:Int}:∀{rs:List Rn},(∀r∈rs,¬(r.f<=p/\p < IC r))->pm rs p=none
 |[],_=>rfl
 |r::rs,h=>by
  unfold pm;rw[aA (h r cA)];exact SO λs hs=>h s (fA _ hs)
theorem ZM {p:Int} {rs:List Rn} (h:∀r∈rs,p < r.f):pm rs p=none:=SO λr hr z=>by have:=h r hr;omega
theorem Y9 {p:Int} {rs:List Rn} (h:∀r∈rs,IC r<=p):pm rs p=none:=SO λr hr z=>by have:=h r hr;omega
theorem gI {p:Int}:∀{rs:List Rn} {r:Rn},HC rs->r∈rs->r.f<=p->p < IC r->pm rs p=some (r.r,tf r p)
 |[],_,_,h,_,_=>by cases h
 |s::rs,r,o,h,h1,h2=>by
  unfold pm;rcases wA.mp h with rfl|h
  ·rw[bA ⟨h1,h2⟩]
  ·have:=o.head r h;rw[aA ⋯];exact gI o.tail h h1 h2
theorem ZV {p:Int} {x:Int×Option (Int×Int)}:∀{rs:List Rn},pm rs p=some x->∃r∈rs,r.f<=p/\p < IC r/\x=(r.r,tf r p)
 |[],h=>by cases h
 |s::rs,h=>by
  unfold pm at h;by_cases c:s.f<=p/\p < IC s
  ·rw[bA c] at h;exact⟨s,cA,c.1,c.2,(FA h).symm⟩
  ·rw[aA c] at h;obtain⟨r,h1,h2⟩:=ZV h;exact⟨r,fA _ h1,h2⟩
theorem aH {p:Int}:∀{rs ss:List Rn},pm (rs++ss) p=(pm rs p).or (pm ss p)
 |[],ss=>by rw[XB];rfl
 |r::rs,ss=>by
  show (if r.f<=p/\p < IC r then some (r.r,tf r p) else pm (rs++ss) p)=(if r.f<=p/\p < IC r then some (r.r,tf r p) else pm rs p).or (pm ss p);by_cases c:r.f<=p/\p < IC r
  ·rw[bA c,bA c];rfl
  ·rw[aA c,aA c];exact aH
theorem EL {r:Rn}:tf r r.f=r.t:=by
 unfold tf;cases r.t with
 |none=>rfl
 |some t=>simp
theorem bW {r:Rn} {p q:Int} {m x:Int}:tf ⟨p,m,x,tf r p⟩ q=tf r q:=by
 unfold tf;cases r.t with
 |none=>rfl
 |some t=>simp;omega
theorem Z9:∀{rs ss:List Rn},HC rs->HC ss->DD rs->DD ss->(∀p,pm rs p=pm ss p)->rs=ss
 |[],[],_,_,_,_,_=>rfl
 |[],b::ss,_,o2,_,_,h=>by
  have hb:=o2.2 b cA;have:=h b.f;rw[gI o2 cA (aB _) (by unfold IC;omega)] at this;cases this
 |a::rs,[],o1,_,_,_,h=>by
  have hb:=o1.2 a cA;have:=h a.f;rw[gI o1 cA (aB _) (by unfold IC;omega)] at this;cases this
 |a::rs,b::ss,o1,o2,l1,l2,h=>by
  have pa:=o1.2 a cA;have pb':=o2.2 b cA;have ha:=gI o1 (p:=a.f) cA (aB _) (by unfold IC;omega);have hb:=gI o2 (p:=b.f) cA (aB _) (by unfold IC;omega);have first:∀{x y:Rn} {xs ys:List Rn},HC (x::xs)->HC (y::ys)->(∀p,pm (x::xs) p=pm (y::ys) p)->¬x.f < y.f:=by
   intro x y xs ys ox oy hh hlt;have px:=ox.2 x cA;have e1:=gI ox (p:=x.f) cA (aB _) (by unfold IC;omega);rw[hh,ZM (λr hr=>by
    rcases wA.mp hr with rfl|hr
    ·exact hlt
    ·have:=oy.head r hr;have:=oy.2 y cA;unfold IC at *; omega)] at e1
   cases e1
  have ef:a.f=b.f:=by
   have h1:=first o1 o2 h
   have h2:=first o2 o1 λp=>(h p).symm
   omega
  have e0:=h a.f;rw[ha,ef,hb] at e0;have e1:=FA e0;have er:a.r=b.r:=congrArg Prod.fst e1;have et:a.t=b.t:=by
   have:=congrArg Prod.snd e1;simp only at this;rw[<-ef,EL,ef,EL] at this;exact this
  have etf:∀p,tf a p=tf b p:=λp=>by unfold tf;rw[et,ef]
  have nlt:∀{x y:Rn} {xs ys:List Rn},HC (x::xs)->HC (y::ys)->DD (x::xs)->(∀p,pm (x::xs) p=pm (y::ys) p)->x.f=y.f->x.r=y.r->(∀p,tf x p=tf y p)->¬IC x < IC y:=by
   intro x y xs ys ox oy lx hh efx erx etx hlt;have px:=ox.2 x cA;have e1:=gI oy (p:=IC x) cA (by unfold IC at *; omega) hlt;rw[<-hh] at e1;obtain⟨s,hs,h1,h2,h3⟩:=ZV e1;rcases wA.mp hs with rfl|hs
   ·omega
   ·cases xs with
    |nil=>cases hs
    |cons z zs=>
     have g:=lx.1;have hz:=ox.head z cA;rcases wA.mp hs with rfl|hs
     ·have hsf:IC x=s.f:=⋯;unfold go at g;rw[kA hsf] at g;have h4:=Prod.mk.inj h3;rw[kA (show x.r=s.r by rw[erx,h4.1])] at g;rw[kA (show tf x s.f=s.t by rw[etx,<-hsf,h4.2,hsf,EL])] at g;cases g
     ·have:=ox.tail.head s hs;have:=ox.2 z (by simp);unfold IC at *;omega
  have ee:IC a=IC b:=by
   have h1:=nlt o1 o2 l1 h ef er etf;have h2:=nlt o2 o1 l2 (λp=>(h p).symm) ef.symm er.symm λp=>(etf p).symm;omega
  have eab:a=b:=by
   cases a;cases b;simp only[IC] at *;simp only[Rn.mk.injEq];exact⟨ef,⋯,er,et⟩
  subst eab;refine congrArg (a::·) (Z9 o1.tail o2.tail l1.tail l2.tail λp=>?_);by_cases c:p < IC a
  ·rw[ZM λr hr=>by have:=o1.head r hr;omega,ZM λr hr=>by have:=o2.head r hr;omega]
  ·have:=h p;unfold pm at this;rw[aA ⋯,aA ⋯] at this;exact this
noncomputable def zS (a b:Rn):Prop:=a.f=b.f/\a.r=b.r/\a.t=b.t
noncomputable def cW (a b:Rn):Prop:=IC a=IC b/\a.r=b.r/\∀p,tf a p=tf b p
theorem dW {l a b:Rn} (h:zS a b):go l a=go l b:=by unfold go;rw[h.1,h.2.1,h.2.2]
theorem UJ {l a b:Rn} (h:cW a b):go a l=go b l:=by unfold go;rw[h.1,h.2.1,h.2.2]
theorem AS:∀{xs ys:List Rn},DD xs->DD ys->(∀a b,xs.getLast?=some a->ys.head?=some b->go a b=false)->DD (xs++ys)
 |[],ys,_,h,_=>h
 |[a],[],h,_,_=>h
 |[a],b::ys,_,h,g=>⟨g a b rfl rfl,h⟩
 |a::b::xs,ys,h,h2,g=>⟨h.1,AS (xs:=b::xs) h.2 h2 λx y e1 e2=>g x y (by rw[List.getLast?_cons_cons];exact e1) e2⟩
theorem aa:∀{xs ys:List Rn},DD (xs++ys)->DD xs
 |[],_,_=>True.intro
 |[a],_,_=>True.intro
 |a::b::xs,ys,h=>⟨h.1,aa (xs:=b::xs) (ys:=ys) h.2⟩
theorem BS:∀{xs ys:List Rn},DD (xs++ys)->DD ys
 |[],_,h=>h
 |a::xs,ys,h=>BS (xs:=xs) (DD.tail (r:=a) h)
theorem eW:∀{xs ys:List Rn} {a b:Rn},DD (xs++ys)->xs.getLast?=some a->ys.head?=some b->go a b=false
 |[],_,_,_,_,h,_=>by cases h
 |[x],[],_,_,_,_,h=>by cases h
 |[x],y::ys,a,b,h,h1,h2=>by
  cases h1;cases h2;exact h.1
 |x::z::xs,ys,a,b,h,h1,h2=>eW (xs:=z::xs) h.2 (by rw[List.getLast?_cons_cons] at h1;exact h1) h2
theorem ba:∀{xs:List Rn} {a b:Rn},zS a b->DD (xs++[b])->DD (xs++[a])
 |[],_,_,_,_=>True.intro
 |[x],a,b,h,l=>⟨by rw[dW h];exact l.1,True.intro⟩
 |x::z::xs,a,b,h,l=>⟨l.1,ba (xs:=z::xs) h l.2⟩
theorem aN {xs ys:List Rn} (h1:HC xs) (h2:HC ys) (h:∀x∈xs,∀y∈ys,IC x<=y.f):HC (xs++ys):=
 ⟨DA.mpr ⟨h1.1,h2.1,h⟩,λr hr=>(rA.mp hr).elim (h1.2 r) (h2.2 r)⟩
theorem UO {xs ys:List Rn} (h:HC (xs++ys)):HC xs:=⟨(DA.mp h.1).1,λr hr=>h.2 r (RA _ hr)⟩
theorem zI {xs ys:List Rn} (h:HC (xs++ys)):HC ys:=⟨(DA.mp h.1).2.1,λr hr=>h.2 r (BA _ hr)⟩
theorem FL {xs ys:List Rn} (h:HC (xs++ys)):∀x∈xs,∀y∈ys,IC x<=y.f:=(DA.mp h.1).2.2
theorem CS {r:Rn} (h:0 < r.m):HC [r]:=⟨by simp,λx hx=>by rw[gA.mp hx];exact h⟩
structure Jn (c acc:List Rn):Prop where
 ord:HC acc
 lst:DD acc
 pg:∀p,pm acc p=pm c p
 hd:∀b,c.head?=some b->∃a,acc.head?=some a/\zS a b
 ls:∀b,c.getLast?=some b->∃a,acc.getLast?=some a/\cW a b
 lo:∀z,(∀y∈c,z<=y.f)->∀x∈acc,z<=x.f
 hi:∀z,(∀y∈c,IC y<=z)->∀x∈acc,IC x<=z
 no:c=[]->acc=[]
theorem VO {α:Type}:∀{l:List α} {a:α},l.getLast?=some a->∃i,l=i++[a]
 |[],_,h=>by cases h
 |[x],a,h=>⟨[],by cases h;rfl⟩
 |x::y::l,a,h=>by
  rw[List.getLast?_cons_cons] at h;obtain⟨i,e⟩:=VO h;exact⟨x::i,by rw[e];rfl⟩
theorem Jn.step {c acc:List Rn} {r:Rn} (J:Jn c acc) (o:HC (c++[r])):Jn (c++[r]) (XD acc r):=by
 have hr:0 < r.m:=o.2 r (BA _ cA);have hcr:∀y∈c,IC y<=r.f:=λy hy=>FL o y hy r cA;rcases hc:c.getLast? with _|d
 ·have:c=[]:=List.getLast?_eq_none_iff.mp hc;subst this;have:=J.no rfl;subst this;exact⟨CS hr,True.intro,λο=>rfl,λb h=>⟨r,rfl,by cases h;exact⟨rfl,rfl,rfl⟩⟩,λb h=>⟨r,rfl,by cases h;exact⟨rfl,rfl,λο=>rfl⟩⟩,λz h=>h,λz h=>h,λh=>by cases h⟩
 ·obtain⟨l,hl,sl⟩:=J.ls d hc;obtain⟨i,rfl⟩:=VO hl;have hcne:c≠[]:=λe=>by rw[e] at hc;cases hc
  have hlr:IC l<=r.f:=J.hi r.f hcr l (by simp);have hil:∀x∈i,IC x<=l.f:=λx hx=>FL J.ord x hx l cA;have hlm:0 < l.m:=J.ord.2 l (by simp);have hhd:∀{b:Rn} {x:List Rn},(c++x).head?=some b->c.head?=some b:=λ{b x} h=>by
   cases c with
   |nil=>exact absurd rfl hcne
   |cons y c=>exact h
  unfold XD;rw[hl];show Jn (c++[r]) (if go l r=true then (i++[l]).dropLast++[⟨l.f,l.m+r.m,l.r,l.t⟩] else (i++[l])++[r]);cases g:go l r with
  |true=>
   rw[bA rfl,List.dropLast_concat];unfold go at g;simp only[ZA,kB] at g;obtain⟨⟨g1,g2⟩,g3⟩:=g;have etf:∀p,tf r p=tf l p:=λp=>by
    unfold tf at g3 ⊢;rw[<-g3];cases l.t with
    |none=>rfl
    |some t=>simp;omega
   have etl:∀p,tf (⟨l.f,l.m+r.m,l.r,l.t⟩:Rn) p=tf l p:=λp=>rfl;refine⟨?_,?_,?_,?_,?_,?_,?_,?_⟩
   ·refine aN (UO J.ord) (CS (by show 0 < l.m+r.m;omega)) λx hx y hy=>?_;rw[gA.mp hy];exact hil x hx
   ·exact ba (b:=l) ⟨rfl,rfl,rfl⟩ J.lst
   ·intro p;rw[aH,aH,<-J.pg p,aH];cases pm i p with
    |some x=>rfl
    |none=>
     show (if l.f<=p/\p < l.f+(l.m+r.m) then some (l.r,tf l p) else none)=((if l.f<=p/\p < IC l then some (l.r,tf l p) else none).or (if r.f<=p/\p < IC r then some (r.r,tf r p) else none));unfold IC at *;by_cases c1:l.f<=p/\p < l.f+l.m
     ·rw[bA c1,bA ⋯];rfl
     ·rw[aA c1];by_cases c2:r.f<=p/\p < r.f+r.m
      ·rw[bA c2,bA ⋯,etf,g2];rfl
      ·rw[aA c2,aA ⋯];rfl
   ·intro b hb;obtain⟨a,ha,sa⟩:=J.hd b (hhd hb);cases i with
    |nil=>
     cases ha;exact⟨_,rfl,sa.1,sa.2.1,sa.2.2⟩
    |cons x i=>exact⟨a,ha,sa⟩
   ·intro b hb;rw[EB] at hb;cases hb;exact⟨⟨l.f,l.m+r.m,l.r,l.t⟩,by rw[EB],by show l.f+(l.m+r.m)=IC r;unfold IC at *; omega,g2,λp=>(etl p).trans (etf p).symm⟩
   ·intro z hz x hx;have hz':∀y∈c,z<=y.f:=λy hy=>hz y (RA _ hy);rcases rA.mp hx with hx|hx
    ·exact J.lo z hz' x (RA _ hx)
    ·rw[gA.mp hx];exact J.lo z hz' l (by simp)
   ·intro z hz x hx;have hz':∀y∈c,IC y<=z:=λy hy=>hz y (RA _ hy);rcases rA.mp hx with hx|hx
    ·exact J.hi z hz' x (RA _ hx)
    ·rw[gA.mp hx];have:=hz r (by simp);show l.f+(l.m+r.m)<=z;unfold IC at *;omega
   ·intro h;simp at h
  |false=>
   rw[aA nA];refine⟨?_,?_,?_,?_,?_,?_,?_,?_⟩
   ·refine aN J.ord (CS hr) λx hx y hy=>?_;rw[gA.mp hy];exact J.hi r.f hcr x hx
   ·refine AS J.lst True.intro λa b ha hb=>?_;rw[EB] at ha;cases ha;cases hb;exact g
   ·intro p;rw[aH,aH (rs:=c),J.pg p]
   ·intro b hb;obtain⟨a,ha,sa⟩:=J.hd b (hhd hb);refine⟨a,?_,sa⟩;rw[List.head?_append,ha];rfl
   ·intro b hb;rw[EB] at hb;cases hb;exact⟨_,by rw[EB],rfl,rfl,λο=>rfl⟩
   ·intro z hz x hx;rcases rA.mp hx with hx|hx
    ·exact J.lo z (λy hy=>hz y (RA _ hy)) x hx
    ·exact hz x (BA _ hx)
   ·intro z hz x hx;rcases rA.mp hx with hx|hx
    ·exact J.hi z (λy hy=>hz y (RA _ hy)) x hx
    ·exact hz x (BA _ hx)
   ·intro h;simp at h
theorem Jn.fold:∀{rs c acc:List Rn},Jn c acc->HC (c++rs)->Jn (c++rs) (rs.foldl XD acc)
 |[],c,acc,J,_=>by rw[IB];exact J
 |r::rs,c,acc,J,o=>by
  have e:c++r::rs=(c++[r])++rs:=by simp
  rw[e] at o ⊢;exact Jn.fold (J.step (UO o)) o
theorem VJ {rs:List Rn} (o:HC rs):Jn rs (jn rs):=by
 have:=Jn.fold (rs:=rs) (c:=[]) (acc:=[]) ⟨⟨by simp,λο h=>by simp at h⟩,True.intro,λο=>rfl,λο h=>by simp at h,λο h=>by simp at h,λο ο ο h=>by simp at h,λο ο ο h=>by simp at h,λο=>rfl⟩ o;exact this
theorem fW {rs:List Rn} (o:HC rs) (p:Int):∃A R,rs=A++R/\pb rs p=A.length/\(∀x∈A,IC x<=p)/\(∀x∈R,p < IC x):=by
 refine⟨rs.takeWhile λr=>decide (IC r<=p),rs.dropWhile λr=>decide (IC r<=p),(List.takeWhile_append_dropWhile).symm,rfl,λx hx=>?_,λx hx=>?_⟩
 ·induction rs with
  |nil=>cases hx
  |cons y rs ih=>
   rw[List.takeWhile_cons] at hx;by_cases c:IC y<=p
   ·rw[kA c] at hx;simp only[PB] at hx;rcases wA.mp hx with rfl|hx
    ·exact c
    ·exact ih o.tail hx
   ·rw[yA c] at hx;simp at hx
 ·induction rs with
  |nil=>cases hx
  |cons y rs ih=>
   rw[List.dropWhile_cons] at hx;by_cases c:IC y<=p
   ·rw[kA c] at hx;simp only[PB] at hx;exact ih o.tail hx
   ·rw[yA c] at hx;simp only[IA,wB] at hx;rcases wA.mp hx with rfl|hx
    ·omega
    ·have h1:=o.head x hx;have h2:=o.2 x (fA _ hx);unfold IC at *;omega
theorem da {rs:List Rn} (o:HC rs) {p q:Int} (h:p<=q):∃A M R,rs=A++M++R/\pb rs p=A.length/\pb rs q=A.length+M.length/\(∀x∈A,IC x<=p)/\(∀x∈M,p < IC x/\IC x<=q)/\(∀x∈R,q < IC x):=by
 obtain⟨A,R1,e1,h1,h2,h3⟩:=fW o p;obtain⟨M,R,e2,h4,h5,h6⟩:=fW (rs:=R1) (by rw[e1] at o;exact zI o) q;refine⟨A,M,R,by rw[e1,e2,vA],h1,?_,h2,λx hx=>⟨h3 x (by rw[e2];exact RA _ hx),h5 x hx⟩,h6⟩;have:pb rs q=A.length+pb R1 q:=by
  rw[e1];clear e1 h1 e2 h4 o
  induction A with
  |nil=>simp
  |cons y A ih=>
   have hy:=h2 y cA;unfold pb at *;rw[List.cons_append,List.takeWhile_cons,kA ⋯];simp only[PB,jB];rw[ih λx hx=>h2 x (fA _ hx)];omega
 rw[this,h4]
theorem ja {A M R:List Rn} {n m:Nat} (hn:n=A.length) (hm:m=A.length+M.length+1):sE (A++M++R) n m=M++R.take 1:=by
 unfold sE;rw[hn,hm,vA,List.take_append,MB ⋯,List.drop_append,List.drop_length,kC,List.drop_zero,XB,
  List.take_append,MB ⋯]
 congr 2;omega
theorem ul {A M R:List Rn} {m:Nat} (hm:m=A.length+M.length+1):(A++M++R).drop m=R.drop 1:=by
 rw[hm,<-qA,List.drop_append,List.drop_eq_nil_of_le ⋯,XB];congr 1;omega
theorem gW {r:Rn} {a:Int} (h1:a<=IC r):rE r r.f a=⟨r.f,a - r.f,r.r,r.t⟩:=by
 unfold rE;rw[Int.max_self,Int.min_eq_right h1,EL]
theorem ka {a p:Int}:∀{N:List Rn},(∀x∈N,a<=IC x)->pm ((N.filter λr=>decide (r.f < a)).map λr=>rE r r.f a) p=if p < a then pm N p else none
 |[],_=>by simp[pm]
 |x::N,h=>by
  have ih:=ka (p:=p) (N:=N) λy hy=>h y (fA _ hy);have hx:=h x cA;rw[dB];by_cases c:x.f < a
  ·rw[kA c];simp only[PB,QA];rw[gW hx];show (if x.f<=p/\p < x.f+(a - x.f) then some (x.r,tf ⟨x.f,a - x.f,x.r,x.t⟩ p) else pm _ p)=if p < a then (if x.f<=p/\p < IC x then some (x.r,tf x p) else pm N p) else none
   rw[ih];have et:tf ⟨x.f,a - x.f,x.r,x.t⟩ p=tf x p:=rfl;rw[et];by_cases c2:p < a
   ·rw[bA c2,bA c2];by_cases c3:x.f<=p
    ·rw[bA ⋯,bA ⋯]
    ·rw[aA ⋯,aA ⋯]
   ·rw[aA c2,aA c2,aA ⋯]
  ·rw[yA c];simp only[IA,wB];rw[ih];show _=if p < a then (if x.f<=p/\p < IC x then some (x.r,tf x p) else pm N p) else none
   by_cases c2:p < a
   ·rw[bA c2,bA c2,aA ⋯]
   ·rw[aA c2,aA c2]
theorem ma {e p:Int}:∀{N:List Rn},pm ((N.filter λr=>decide (IC r > e)).map λr=>rE r e (IC r)) p=if e<=p then pm N p else none
 |[]=>by simp[pm]
 |x::N=>by
  have ih:=ma (e:=e) (p:=p) (N:=N);rw[dB];by_cases c:IC x > e
  ·rw[kA c];simp only[PB,QA];show (if max x.f e<=p/\p < max x.f e+(min (IC x) (IC x) - max x.f e) then some (x.r,tf ⟨_,_,_,tf x (max x.f e)⟩ p) else pm _ p)=if e<=p then (if x.f<=p/\p < IC x then some (x.r,tf x p) else pm N p) else none
   rw[ih,bW,Int.min_self];by_cases c2:e<=p
   ·rw[bA c2,bA c2];by_cases c3:x.f<=p/\p < IC x
    ·rw[bA c3,bA ⋯]
    ·rw[aA c3,aA ⋯]
   ·rw[aA c2,aA c2,aA ⋯]
  ·rw[yA c];simp only[IA,wB];rw[ih];show _=if e<=p then (if x.f<=p/\p < IC x then some (x.r,tf x p) else pm N p) else none
   by_cases c2:e<=p
   ·rw[bA c2,bA c2,aA ⋯]
   ·rw[aA c2,aA c2]
theorem iW {N:List Rn} {q:Rn->Bool} {g:Rn->Rn} (o:HC N) (h1:∀x∈N,q x=true->0 < (g x).m) (h2:∀x∈N,∀y∈N,q x=true->q y=true->IC x<=y.f->IC (g x)<=(g y).f):HC ((N.filter q).map g):=by
 refine⟨?_,λr hr=>?_⟩
 ·rw[List.pairwise_map];have h3:((N.filter q)).Pairwise λa b=>IC a<=b.f:=o.1.filter q;refine List.Pairwise.imp_of_mem (λ{x y} hx hy h=>?_) h3;have hx:=zB.mp hx;have hy:=zB.mp hy;exact h2 x hx.1 y hy.1 hx.2 hy.2 h
 ·obtain⟨x,hx,rfl⟩:=xA.mp hr;have hx:=zB.mp hx;exact h1 x hx.1 hx.2
theorem jW {rs parts:List Rn} {a n:Int} (o:HC rs) (l:DD rs) (hn:0 < n) (op:HC parts) (hb:∀x∈parts,a<=x.f/\IC x<=a+n):
  HC (ZD rs a n parts)/\DD (ZD rs a n parts)/\∀p,pm (ZD rs a n parts) p=if a<=p/\p < a+n then pm parts p else pm rs p:=by
 obtain⟨A,M,R,e,h1,h2,hA,hM,hR⟩:=da o (p:=a - 1) (q:=a+n) ⋯;have eN:sE rs (pb rs (a - 1)) (pb rs (a+n)+1)=M++R.take 1:=by
  rw[h1,h2]
  conv=>lhs;rw[e]
  exact ja rfl rfl
 have eB:rs.drop (pb rs (a+n)+1)=R.drop 1:=by
  rw[h2]
  conv=>lhs;rw[e]
  exact ul rfl
 have eA:rs.take (pb rs (a - 1))=A:=by rw[h1];conv=>lhs;rw[e,vA,List.take_left]
 unfold ZD;simp only[];rw[eN,eB,eA];have hRs:R=R.take 1++R.drop 1:=(QB 1 R).symm;have o3:HC (A++((M++R.take 1)++R.drop 1)):=by rw[vA M,<-hRs,<-vA,<-e];exact o
 have l3:DD (A++((M++R.take 1)++R.drop 1)):=by rw[vA M,<-hRs,<-vA,<-e];exact l
 have hN:∀x∈M++R.take 1,a<=IC x:=λx hx=>by
  rcases rA.mp hx with hx|hx
  ·have:=hM x hx;omega
  ·have:=hR x (List.mem_of_mem_take hx);omega
 have hB:∀x∈R.drop 1,a+n < x.f:=λx hx=>by
  cases R with
  |nil=>cases hx
  |cons z B=>
   have h4:IC z<=x.f:=(zI (zI o3)) |> λο=>by
    have h5:=FL (zI o3) z (by simp) x hx;exact h5
   have:=hR z cA;omega
 have hz:R.drop 1≠[]->∃z,(M++R.take 1).getLast?=some z/\a+n < IC z:=λh=>by
  cases R with
  |nil=>exact absurd rfl h
  |cons z B=>exact⟨z,by simp,hR z cA⟩
 have oN:HC (M++R.take 1):=UO (zI o3);have oB:HC (R.drop 1):=zI (zI o3);have oA:HC A:=UO o3;have ep:∀p,pm rs p=(pm A p).or ((pm (M++R.take 1) p).or (pm (R.drop 1) p)):=λp=>by
  rw[<-aH,<-aH,vA M,<-hRs,<-vA,<-e]
 generalize hNN:M++R.take 1=N at *;generalize R.drop 1=B at *;have oa:HC ((N.filter λr=>decide (r.f < a)).map λr=>rE r r.f a):=iW oN (λx hx c=>by
   have c:x.f < a:=by simpa using c
   rw[gW (hN x hx)];show 0 < a - x.f;omega) λx hx y hy c1 c2 h=>by
  have c2:y.f < a:=by simpa using c2
  have:=hN x hx;omega
 have ob:HC ((N.filter λr=>decide (IC r > a+n)).map λr=>rE r (a+n) (IC r)):=iW oN (λx hx c=>by
   have c:IC x > a+n:=by simpa using c
   have:=oN.2 x hx;show 0 < min (IC x) (IC x) - max x.f (a+n);rw[Int.min_self];unfold IC at *;omega) λx hx y hy c1 c2 h=>by
  have c1:IC x > a+n:=by simpa using c1
  have:=oN.2 x hx;show max x.f (a+n)+(min (IC x) (IC x) - max x.f (a+n))<=max y.f (a+n);rw[Int.min_self];omega
 have ahd:∀x∈(N.filter λr=>decide (r.f < a)).map λr=>rE r r.f a,IC x=a/\∃y∈N,y.f < a/\zS x y:=λx hx=>by
  obtain⟨y,hy,rfl⟩:=xA.mp hx;have hy:=zB.mp hy;have c:y.f < a:=by simpa using hy.2
  rw[gW (hN y hy.1)];exact⟨by show y.f+(a - y.f)=a;omega,y,hy.1,c,rfl,rfl,rfl⟩
 have bhd:∀x∈(N.filter λr=>decide (IC r > a+n)).map λr=>rE r (a+n) (IC r),a+n<=x.f/\∃y∈N,IC x=IC y:=λx hx=>by
  obtain⟨y,hy,rfl⟩:=xA.mp hx;have hy:=zB.mp hy;refine⟨by show a+n<=max y.f (a+n);omega,y,hy.1,?_⟩;show max y.f (a+n)+(min (IC y) (IC y) - max y.f (a+n))=IC y;rw[Int.min_self];omega
 generalize hAH:(N.filter λr=>decide (r.f < a)).map (λr=>rE r r.f a)=ah at *;generalize hBH:(N.filter λr=>decide (IC r > a+n)).map (λr=>rE r (a+n) (IC r))=bh at *;have oX:HC (ah++parts++bh):=by
  refine aN (aN oa op λx hx y hy=>?_) ob λx hx y hy=>?_
  ·have:=(ahd x hx).1;have:=(hb y hy).1;omega
  ·have h4:=(bhd y hy).1;rcases rA.mp hx with hx|hx
   ·have:=(ahd x hx).1;omega
   ·have:=(hb x hx).2;omega
 have J:=VJ oX;have hXB:∀x∈jn (ah++parts++bh),∀y∈B,IC x<=y.f:=λx hx y hy=>by
  refine J.hi y.f (λw hw=>?_) x hx;rcases rA.mp hw with hw|hw
  ·rcases rA.mp hw with hw|hw
   ·have:=(ahd w hw).1;have:=hB y hy;omega
   ·have:=(hb w hw).2;have:=hB y hy;omega
  ·obtain⟨z,hz1,hz2⟩:=(bhd w hw).2;rw[hz2];exact FL (zI o3) z hz1 y hy
 have hAX:∀x∈A,∀y∈jn (ah++parts++bh),IC x<=y.f:=λx hx y hy=>by
  refine J.lo (IC x) (λw hw=>?_) y hy;have hx2:=hA x hx;rcases rA.mp hw with hw|hw
  ·rcases rA.mp hw with hw|hw
   ·obtain⟨z,hz1,_,hz2⟩:=(ahd w hw).2;rw[hz2.1];exact FL o3 x hx z (RA _ hz1)
   ·have:=(hb w hw).1;omega
  ·have:=(bhd w hw).1;omega
 refine⟨?_,?_,?_⟩
 ·refine aN (aN oA J.ord hAX) oB λx hx y hy=>?_;rcases rA.mp hx with hx|hx
  ·exact FL o3 x hx y (BA _ hy)
  ·exact hXB x hx y hy
 ·have lA:DD A:=aa l3;have lB:DD B:=BS (BS l3);have lAX:DD (A++jn (ah++parts++bh)):=AS lA J.lst λu v hu hv=>by
   cases hX:(ah++parts++bh).head? with
   |none=>
    have hX:=List.head?_eq_none_iff.mp hX;rw[hX,show jn []=[] from rfl] at hv;cases hv
   |some w=>
    obtain⟨v',hv',sv⟩:=J.hd w hX;rw[hv] at hv';cases hv';rw[dW sv];have hu2:=hA u (List.mem_of_getLast? hu);by_cases cw:a<=w.f
    ·unfold go;rw[yA ⋯];rfl
    ·cases ah with
     |nil=>
      exfalso;have hw:w∈parts++bh:=by
       rw[XB] at hX;exact List.mem_of_head? hX
      rcases rA.mp hw with hw|hw
      ·exact cw (hb w hw).1
      ·have:=(bhd w hw).1;omega
     |cons w' ah'=>
      obtain rfl:w'=w:=by simpa using hX
      obtain⟨y,hy,hya,sy⟩:=(ahd w' cA).2;rw[dW sy];refine eW l3 hu ?_;rw[List.head?_append];cases N with
      |nil=>cases hy
      |cons y0 N=>
       rcases wA.mp hy with rfl|hy
       ·rfl
       ·have h5:=oN.head y hy;have h6:=hN y0 cA;omega
  refine AS lAX lB λu v hu hv=>?_;have hBne:B≠[]:=λz=>by rw[z] at hv;cases hv
  obtain⟨z,hz1,hz2⟩:=hz hBne;obtain⟨N0,rfl⟩:=VO hz1;have hlast:(ah++parts++bh).getLast?=some (rE z (a+n) (IC z)):=by
   rw[<-hBH,List.filter_append,KA];have:([z].filter λr=>decide (IC r > a+n))=[z]:=by rw[dB,kA hz2];rfl
   rw[this,<-vA,QA,KB,EB]
  obtain⟨u',hu',su⟩:=J.ls _ hlast;have hne:jn (ah++parts++bh)≠[]:=λz=>by rw[z] at hu';cases hu'
  rw[List.getLast?_append,hu'] at hu;obtain rfl:u'=u:=by simpa using hu
  rw[UJ su];have sz:cW (rE z (a+n) (IC z)) z:=by
   refine⟨?_,rfl,λp=>?_⟩
   ·show max z.f (a+n)+(min (IC z) (IC z) - max z.f (a+n))=IC z;rw[Int.min_self];omega
   ·exact bW
  rw[UJ sz];exact eW (BS l3) hz1 hv
 ·intro p;rw[aH,aH,J.pg,aH,aH,ep p];have e1:pm ah p=if p < a then pm N p else none:=by rw[<-hAH];exact ka hN
  have e2:pm bh p=if a+n<=p then pm N p else none:=by rw[<-hBH];exact ma
  rw[e1,e2];by_cases c:a<=p/\p < a+n
  ·rw[bA c,aA ⋯,aA ⋯,Y9 (rs:=A) λr hr=>by have:=hA r hr;omega,ZM (rs:=B) λr hr=>by have:=hB r hr;omega];cases pm parts p<;>rfl
  ·rw[aA c,SO (rs:=parts) λr hr z=>by have:=hb r hr;omega];by_cases c2:p < a
   ·rw[bA c2,aA ⋯];cases pm A p<;>cases pm N p<;>rfl
   ·rw[aA c2,bA ⋯];cases pm A p<;>cases pm N p<;>rfl
theorem qa {r:Rn} {a e:Int} (h1:a < IC r) (h2:r.f < e) (h3:a < e) (h0:0 < r.m):a<=(rE r a e).f/\IC (rE r a e)<=e/\0 < (rE r a e).m:=by
 have e1:(rE r a e).f=max r.f a:=rfl;have e2:(rE r a e).m=min (IC r) e - max r.f a:=rfl;have e3:IC (rE r a e)=max r.f a+(min (IC r) e - max r.f a):=rfl;rw[e3,e2,e1];unfold IC at *;omega
theorem WJ {a e p:Int}:∀{N:List Rn},(∀x∈N,0 < x.m)->pm ((N.filter λr=>decide (r.f < e)).map λr=>rE r a e) p=if a<=p/\p < e then pm N p else none
 |[],_=>by simp[pm]
 |x::N,h=>by
  have ih:=WJ (a:=a) (e:=e) (p:=p) (N:=N) λy hy=>h y (fA _ hy);have hx:=h x cA;rw[dB];by_cases c:x.f < e
  ·rw[kA c];simp only[PB,QA];show (if max x.f a<=p/\p < max x.f a+(min (IC x) e - max x.f a) then some (x.r,tf ⟨_,_,_,tf x (max x.f a)⟩ p) else pm _ p)=if a<=p/\p < e then (if x.f<=p/\p < IC x then some (x.r,tf x p) else pm N p) else none
   rw[ih,bW];by_cases c2:a<=p/\p < e
   ·rw[bA c2,bA c2];by_cases c3:x.f<=p/\p < IC x
    ·rw[bA c3,bA ⋯]
    ·rw[aA c3,aA ⋯]
   ·rw[aA c2,aA c2,aA ⋯]
  ·rw[yA c];simp only[IA,wB];rw[ih];show _=if a<=p/\p < e then (if x.f<=p/\p < IC x then some (x.r,tf x p) else pm N p) else none
   by_cases c2:a<=p/\p < e
   ·rw[bA c2,bA c2,aA ⋯]
   ·rw[aA c2,aA c2]
theorem DS {rs:List Rn} {a n:Int} (o:HC rs) (hn:0 < n):HC (aE rs a n)/\(∀x∈aE rs a n,a<=x.f/\IC x<=a+n)/\∀p,pm (aE rs a n) p=if a<=p/\p < a+n then pm rs p else none:=by
 obtain⟨A,M,R,e,h1,h2,hA,hM,hR⟩:=da o (p:=a) (q:=a+n) ⋯;have eN:sE rs (pb rs a) (pb rs (a+n)+1)=M++R.take 1:=by
  rw[h1,h2]
  conv=>lhs;rw[e]
  exact ja rfl rfl
 unfold aE;rw[eN];have hRs:R=R.take 1++R.drop 1:=(QB 1 R).symm;have o3:HC (A++((M++R.take 1)++R.drop 1)):=by rw[vA M,<-hRs,<-vA,<-e];exact o
 have hN:∀x∈M++R.take 1,a < IC x:=λx hx=>by
  rcases rA.mp hx with hx|hx
  ·exact (hM x hx).1
  ·have:=hR x (List.mem_of_mem_take hx);omega
 have hB:∀x∈R.drop 1,a+n < x.f:=λx hx=>by
  cases R with
  |nil=>cases hx
  |cons z B=>
   have h5:=FL (zI o3) z (by simp) x hx;have:=hR z cA;omega
 have oN:HC (M++R.take 1):=UO (zI o3);have ep:∀p,pm rs p=(pm A p).or ((pm (M++R.take 1) p).or (pm (R.drop 1) p)):=λp=>by
  rw[<-aH,<-aH,vA M,<-hRs,<-vA,<-e]
 generalize M++R.take 1=N at *;generalize R.drop 1=B at *;refine⟨iW oN (λx hx c=>?_) (λx hx y hy c1 c2 h=>?_),λx hx=>?_,λp=>?_⟩
 ·exact (qa (hN x hx) (by simpa using c) ⋯ (oN.2 x hx)).2.2
 ·show max x.f a+(min (IC x) (a+n) - max x.f a)<=max y.f a;omega
 ·obtain⟨y,hy,rfl⟩:=xA.mp hx;have hy:=zB.mp hy;have:=qa (hN y hy.1) (by simpa using hy.2) (show a < a+n by omega) (oN.2 y hy.1);exact⟨this.1,this.2.1⟩
 ·rw[WJ λx hx=>oN.2 x hx,ep p];by_cases c:a<=p/\p < a+n
  ·rw[bA c,bA c,Y9 (rs:=A) λr hr=>by have:=hA r hr;omega,ZM (rs:=B) λr hr=>by have:=hB r hr;omega];cases pm N p<;>rfl
  ·rw[aA c,aA c]
theorem ra:∀{L:List Rn} {a e:Int},HC L->a<=e->(∀x∈L,a<=x.f/\IC x<=e)->0<=(L.map (·.m)).sum/\(L.map (·.m)).sum<=e - a/\((L.map (·.m)).sum=e - a↔∀p,a<=p->p < e->pm L p≠none)
 |[],a,e,_,h,_=>by
  refine⟨by simp,by simp;omega,?_⟩;constructor
  ·intro h1 p h2 h3;simp at h1;omega
  ·intro h1;simp;rcases (by omega:a < e\/e<=a) with h2|h2
   ·exact absurd rfl (h1 a (aB _) h2)
   ·omega
 |x::L,a,e,o,h,hb=>by
  have hx:=hb x cA;have pos:=o.2 x cA;have ih:=ra (L:=L) (a:=IC x) (e:=e) o.tail hx.2 λy hy=>⟨o.head y hy,(hb y (fA _ hy)).2⟩
  rw[QA,List.sum_cons];have ex:IC x=x.f+x.m:=rfl;refine⟨⋯,⋯,?_⟩;constructor
  ·intro h1 p h2 h3;have h4:(L.map (·.m)).sum=e - IC x:=⋯;have h5:x.f=a:=⋯;show (if x.f<=p/\p < IC x then some (x.r,tf x p) else pm L p)≠none;by_cases c:p < IC x
   ·rw[bA ⋯];exact λz=>by cases z
   ·rw[aA ⋯];exact ih.2.2.mp h4 p ⋯ h3
  ·intro h1;have h5:x.f=a:=by
    rcases (by omega:a < x.f\/x.f<=a) with h2|h2
    ·refine absurd (ZM (p:=a) (rs:=x::L) λr hr=>?_) (h1 a (aB _) ⋯);rcases wA.mp hr with rfl|hr
     ·exact h2
     ·have:=o.head r hr;omega
    ·omega
   have h4:=ih.2.2.mpr λp h2 h3=>by
    have:=h1 p ⋯ h3;intro z;apply this;show (if x.f<=p/\p < IC x then some (x.r,tf x p) else pm L p)=none;rw[aA ⋯];exact z
   omega
theorem ES {rs:List Rn} {a n:Int} (o:HC rs) (hn:0 < n):((aE rs a n).map (·.m)).sum=n↔∀p,a<=p->p < a+n->pm rs p≠none:=by
 obtain⟨h1,h2,h3⟩:=DS (a:=a) o hn;have:=(ra h1 (show a<=a+n by omega) h2).2.2;rw[show a+n - a=n by omega] at this;rw[this];refine⟨λh p x y=>?_,λh p x y=>?_⟩
 ·have:=h p x y;rw[h3,bA ⟨x,y⟩] at this;exact this
 ·rw[h3,bA ⟨x,y⟩];exact h p x y
theorem va {rs:List Rn} {a n:Int} (o:HC rs) (hn:0 < n):aE rs a n=[]↔∀p,a<=p->p < a+n->pm rs p=none:=by
 obtain⟨h1,h2,h3⟩:=DS (a:=a) o hn;refine⟨λh p x y=>?_,λh=>?_⟩
 ·have:=h3 p;rw[h,bA ⟨x,y⟩] at this;exact this.symm
 ·cases e:aE rs a n with
  |nil=>rfl
  |cons z L=>
   rw[e] at h1 h2 h3;have hz:=h2 z cA;have hp:=h1.2 z cA;have ez:IC z=z.f+z.m:=rfl;have h4:=gI h1 (p:=z.f) cA (aB _) ⋯;rw[h3,bA ⋯,h z.f hz.1 ⋯] at h4;cases h4
theorem wl {rs:List Rn} {p:Int} (o:HC rs):(aE rs p 1=[]/\pm rs p=none)\/∃x,aE rs p 1=[x]/\pm rs p=some (x.r,x.t):=by
 obtain⟨h1,h2,h3⟩:=DS (a:=p) o (show (0:Int) < 1 by decide);cases e:aE rs p 1 with
 |nil=>
  refine .inl ⟨rfl,?_⟩;have:=h3 p;rw[e,bA ⋯] at this;exact this.symm
 |cons x L=>
  rw[e] at h1 h2 h3;have hx:=h2 x cA;have px:=h1.2 x cA;have ex:IC x=x.f+x.m:=rfl;have hL:L=[]:=by
   cases L with
   |nil=>rfl
   |cons y L=>
    have h4:=h1.head y cA;have h5:=h2 y (by simp);have h6:=h1.2 y (by simp);have ey:IC y=y.f+y.m:=rfl;omega
  subst hL;refine .inr ⟨x,rfl,?_⟩;have:=h3 p;rw[bA ⋯] at this;rw[<-this];have hf:x.f=p:=⋯;show (if x.f<=p/\p < IC x then some (x.r,tf x p) else none)=_;rw[bA ⋯,<-hf,EL]
theorem wa {q:Int}:∀{L:List Rn} {p:Int},pm (L.map λx=>(⟨x.f,x.m,q,x.t⟩:Rn)) p=(pm L p).map λy=>(q,y.2)
 |[],_=>rfl
 |x::L,p=>by
  show (if x.f<=p/\p < IC x then some (q,tf ⟨x.f,x.m,q,x.t⟩ p) else pm _ p)=(if x.f<=p/\p < IC x then some (x.r,tf x p) else pm L p).map _;have e:tf ⟨x.f,x.m,q,x.t⟩ p=tf x p:=rfl;rw[e,wa (L:=L)];by_cases c:x.f<=p/\p < IC x
  ·rw[bA c,bA c];rfl
  ·rw[aA c,aA c]
theorem xl {q:Int} {L:List Rn} (o:HC L):HC (L.map λx=>(⟨x.f,x.m,q,x.t⟩:Rn)):=by
 refine⟨?_,λr hr=>?_⟩
 ·rw[List.pairwise_map];exact o.1
 ·obtain⟨x,hx,rfl⟩:=xA.mp hr;exact o.2 x hx
theorem WO {rs:List Rn} {p:Int}:pb rs p<=rs.length:=by unfold pb;exact (List.takeWhile_prefix _).length_le
theorem XO {rs:List Rn} (o:HC rs) {p:Int} {i:Nat} {x:Rn} (h:rs[i]?=some x):i < pb rs p↔IC x<=p:=by
 obtain⟨A,R,e,h1,h2,h3⟩:=fW o p;rw[h1];rw[e] at h;constructor
 ·intro hi;rw[List.getElem?_append_left hi] at h;exact h2 x (fB h)
 ·intro hx;rcases Nat.lt_or_ge i A.length with hi|hi
  ·exact hi
  ·rw[SA hi] at h;have:=h3 x (fB h);omega
noncomputable def vD (H:Hp) (v:V):Option (Int×Int)->Prop
 |none=>v=.non
 |some (b,k)=>∃a,v=.ref a/\H a=some (.tup [.int b,.int k])
noncomputable def bD (H:Hp) (v:V) (r:Rn):Prop:=∃a tv,v=.ref a/\H a=some (.tup [.int r.f,.int r.m,.int r.r,tv])/\vD H tv r.t
theorem vD.same {H H':Hp} {v:V}:∀{t:Option (Int×Int)},vD H v t->vC H H'->vD H' v t
 |none,h,_=>h
 |some (b,k),⟨a,e,h⟩,s=>⟨a,e,s _ _ h⟩
theorem bD.same {H H':Hp} {v:V} {r:Rn} (h:bD H v r) (s:vC H H'):bD H' v r:=let ⟨a,tv,e,h1,h2⟩:=h;⟨a,tv,e,s _ _ h1,h2.same s⟩
theorem vD.same2 {H H':Hp} {a:Addr} {xs:List V} {o:HO} {v:V} (hx:H' a=some (.lst xs)):∀{t:Option (Int×Int)},vD H' v t->vD (yC H' a o) v t
 |none,h=>h
 |some (b,k),⟨c,e,h⟩=>⟨c,e,by rw[WC (OE h hx λz=>nomatch z)];exact h⟩
theorem bD.same2 {H H':Hp} {a:Addr} {xs:List V} {o:HO} {v:V} {r:Rn} (h:bD H' v r) (hx:H' a=some (.lst xs)) (_:vC H H'):bD (yC H' a o) v r:=
 let ⟨c,tv,e,h1,h2⟩:=h
 ⟨c,tv,e,by rw[WC (OE h1 hx λz=>nomatch z)];exact h1,vD.same2 (H:=H) hx h2⟩
noncomputable abbrev xC (H:Hp):List V->List Rn->Prop:=Paired (bD H)
theorem xC.same {H H':Hp} {vs:List V} {rs:List Rn} (h:xC H vs rs) (s:vC H H'):xC H' vs rs:=Paired.mapP h λο ο q=>q.same s
theorem xC.same2 {H H':Hp} {a:Addr} {xs:List V} {o:HO} {vs:List V} {rs:List Rn} (h:xC H' vs rs) (hx:H' a=some (.lst xs)) (s:vC H H'):xC (yC H' a o) vs rs:=Paired.mapP h λο ο q=>q.same2 hx s
theorem AI {α β:Type} {F:α->β->Prop}:∀{xs:List α} {ys:List β} {i:Nat} {x:α},Paired F xs ys->xs[i]?=some x->∃y,ys[i]?=some y/\F x y
 |_,_,_,_,.nil,e=>by simp at e
 |_,_,0,_,.cons r _,e=>by simp at e;subst e;exact⟨_,rfl,r⟩
 |_,_,i+1,x,.cons _ t,e=>by
  obtain⟨u,h1,h2⟩:=AI (i:=i) (x:=x) t (by simpa using e);exact⟨u,by simpa using h1,h2⟩
theorem EG {α β:Type} {F:α->β->Prop}:∀{xs:List α} {ys:List β} {zs:List α} {ws:List β},Paired F xs ys->Paired F zs ws->Paired F (xs++zs) (ys++ws)
 |_,_,_,_,.nil,h=>h
 |_,_,_,_,.cons r t,h=>.cons r (EG t h)
theorem FS {α β:Type} {F:α->β->Prop}:∀{xs:List α} {ys:List β} (n:Nat),Paired F xs ys->Paired F (xs.take n) (ys.take n)
 |_,_,0,_=>.nil
 |_,_,_+1,.nil=>.nil
 |_,_,n+1,.cons r t=>.cons r (FS n t)
theorem GS {α β:Type} {F:α->β->Prop}:∀{xs:List α} {ys:List β} (n:Nat),Paired F xs ys->Paired F (xs.drop n) (ys.drop n)
 |_,_,0,h=>h
 |_,_,_+1,.nil=>.nil
 |_,_,n+1,.cons _ t=>GS n t
noncomputable def YO (K:W.Frag):Sp:=λvs H Q ο=>∃v r,vs=[v]/\bD H v r/\Q (.int (IC r)) H
theorem HS (T:AD K mg A):KD P w K mg base "end_of" 1 ["run"] [] (YO K):=by
 refine T.Pq.have wj (λvs H Q E z=>?_) ?_
 ·obtain⟨v,r,rfl,_⟩:=z;rfl
 ·intro f cdv A' outer s H vs Q E hr z;obtain⟨v,r,rfl,⟨a,tv,rfl,ha,ht⟩,q⟩:=z;refine⟨_,(EC (YC (ZC YE (MC UC (nC 0) sC (λο ο=>rfl)) (MC UC (nC 0) sC (λο ο=>rfl))))),?_⟩;rfl';exact⟨_,OC.of ha,_,rfl,_,OC.of ha,_,rfl,_,rfl,_,rfl,q⟩
noncomputable def kW (K:W.Frag):Sp:=λvs H Q ο=>∃v r p,vs=[v,.int p]/\bD H v r/\∀u H',vC H H'->vD H' u (tf r p)->Q u H'
theorem xa (T:AD K mg A):KD P w K mg base "tie_from" 1 ["run","page"] [] (kW K):=by
 refine T.Oh.have X8 (λvs H Q E z=>?_) ?_
 ·obtain⟨v,r,p,rfl,_⟩:=z;rfl
 ·intro f cdv A' outer s H vs Q E hr z;obtain⟨v,r,p,rfl,⟨a,tv,rfl,ha,ht⟩,q⟩:=z;refine⟨_,(NC (sD (i:=2) X8.nd rfl (Or.inl rfl) (MC UC (nC 0) sC (λο ο=>rfl)))
   (NC (eD (tD sI (nC 2) XE (rC _)) (EC (YC XE)) fD)
   (EC (YC (YD (pC (MC UC (nC 2) sC (λο ο=>rfl)) (pC (ZC YG (ZC YE (MC UC (nC 2) sC (λο ο=>rfl)) (nC 1)) (MC UC (nC 0) sC (λο ο=>rfl))) uC))))))),?_⟩
  rfl';refine⟨_,OC.of ha,_,rfl,?_⟩;cases e:r.t with
  |none=>
   rw[e] at ht;have ht:tv=.non:=ht;subst ht;rw[bA rfl];refine q _ _ LC ?_;unfold tf;rw[e]
   rfl
  |some t=>
   obtain⟨b,k⟩:=t;rw[e] at ht;obtain⟨c,rfl,hc⟩:=ht;rw[aA (λz=>nomatch z)];rfl';refine⟨_,OC.of hc,_,rfl,_,OC.of hc,_,rfl,_,rfl,_,OC.of ha,_,rfl,_,rfl,λp2 hp2=>?_⟩;refine q _ _ (dD LC hp2) ?_;unfold tf;rw[e];exact⟨p2,rfl,SC⟩
noncomputable def lW (K:W.Frag):Sp:=λvs H Q ο=>∃v r lo hi,vs=[v,.int lo,.int hi]/\bD H v r/\∀u H',vC H H'->bD H' u (rE r lo hi)->Q u H'
theorem ya (T:AD K mg A):KD P w K mg base "part_of" 2 ["run","low","high"] [] (lW K):=by
 have Bk:=@HS P w K mg base A T;have En:=@xa P w K mg base A T;refine T.Os.have Y8 (λvs H Q E z=>?_) ?_
 ·obtain⟨v,r,lo,hi,rfl,_⟩:=z;rfl
 ·intro f cdv A' outer s H vs Q E hr z;obtain⟨v,r,lo,hi,rfl,hR,q⟩:=z;obtain⟨a,tv,rfl,ha,ht⟩:=id hR;refine⟨_,(NC (sD (i:=3) Y8.nd rfl (Or.inl rfl) (SD (Z3 rfl) rfl T.Q0 PyProof.Rows.boot_max (pC (MC UC (nC 0) sC (λο ο=>rfl)) (pC (nC 1) uC))))
   (EC (YC (YD (pC (nC 3) (pC (ZC YG (SD (i4 rfl) rfl T.Q1 PyProof.Rows.boot_min (pC (lD Bk (hr.mono (by decide)) KC (pC (nC 0) uC)) (pC (nC 2) uC))) (nC 3)) (pC (MC UC (nC 0) sC (λο ο=>rfl)) (pC (lD En (hr.mono (by decide)) KC (pC (nC 0) (pC (nC 3) uC))) uC)))))))),?_⟩
  unfold YO kW;rfl';refine⟨_,OC.of ha,_,rfl,_,rfl,r,hR,_,OC.of ha,_,rfl,r,hR,λu H1 s1 hu p hp=>?_⟩;have e1:(if lo > r.f then lo else r.f)=max r.f lo:=by split<;>omega
  have e2:(if hi < IC r then hi else IC r)=min (IC r) hi:=by split<;>omega
  rw[e1,e2];rw[e1] at hu;refine q _ _ (dD s1 hp) ⟨p,u,rfl,SC,?_⟩;exact hu.same (dD LC hp)
theorem yl {H:Hp} {u v:V} {t1 t2:Option (Int×Int)} {Q:VK} (h1:vD H u t1) (h2:vD H v t2) (q:Q (.bl (decide (t1=t2))) H):nO K 4 u v H Q:=by
 cases t1 with
 |none=>
  cases t2 with
  |none=>exact .inl ⟨h1,h2,q⟩
  |some t2=>
   obtain⟨b,k⟩:=t2;obtain⟨a,e,h2⟩:=h2;exact .inr (.inl ⟨h1,⟨a,_,e,OC.of h2⟩,q⟩)
 |some t1=>
  obtain⟨b,k⟩:=t1;obtain⟨a,e,h1⟩:=h1;cases t2 with
  |none=>exact .inr (.inr (.inl ⟨⟨a,_,e,OC.of h1⟩,h2,q⟩))
  |some t2=>
   obtain⟨b2,k2⟩:=t2;obtain⟨a2,e2,h2⟩:=h2;subst e e2;refine .inr (.inr (.inr ⟨true,HD [b,k],HD [b2,k2],X6 (ns:=[b,k]) (OC.of h1),X6 (ns:=[b2,k2]) (OC.of h2),Y6 _ _,by rw[kO];decide,?_⟩));rw[Z6];rw[show decide ([b,k]=[b2,k2])=decide (some (b,k)=some (b2,k2)) from by rw[decide_eq_decide];simp];exact q
noncomputable def za (K:W.Frag):Sp:=λvs H Q ο=>∃v u r s,vs=[v,u]/\bD H v r/\bD H u s/\∀H',vC H H'->Q (.bl (go r s)) H'
theorem zl (T:AD K mg A):KD P w K mg base "goes_on" 2 ["run","later"] [] (za K):=by
 have Bk:=@HS P w K mg base A T;have En:=@xa P w K mg base A T;refine T.Ot.have xj (λvs H Q E z=>?_) ?_
 ·obtain⟨v,u,r,s,rfl,_⟩:=z;rfl
 ·intro f cdv A' outer s H vs Q E hr z;obtain⟨v,u,r,s',rfl,hR,hS,q⟩:=z;obtain⟨a,tv,rfl,ha,ht⟩:=id hR;obtain⟨b,uv,rfl,hb,hu⟩:=id hS;refine⟨_,(EC (YC (cH (GG pE (lD Bk (hr.mono (by decide)) KC (pC (nC 0) uC)) (MC UC (nC 1) sC (λο ο=>rfl)) (rC _)) (cH (GG pE (MC UC (nC 0) sC (λο ο=>rfl)) (MC UC (nC 1) sC (λο ο=>rfl)) (rC _)) (pI (GG (eL (n:=4) (S6 hr)) (lD En (hr.mono (by decide)) KC (pC (nC 0) (pC (MC UC (nC 1) sC (λο ο=>rfl)) uC))) (MC UC (nC 1) sC (λο ο=>rfl)) (rC _))))))),?_⟩;unfold YO kW;rfl';refine⟨r,hR,_,OC.of hb,.int s'.f,rfl,rfl,?_⟩;by_cases c1:IC r=s'.f
  ·rw[bA (by rw[c1])];refine⟨_,OC.of ha,.int r.r,rfl,_,OC.of hb,.int s'.r,rfl,rfl,?_⟩;by_cases c2:r.r=s'.r
   ·rw[bA (by rw[c2])];refine⟨_,OC.of hb,_,rfl,r,_,rfl,hR,λu H1 s1 hu1=>⟨_,OC.of (s1 _ _ hb),uv,rfl,yl hu1 (hu.same s1) ?_⟩⟩;have e:go r s'=decide (tf r s'.f=s'.t):=by unfold go;rw[kA c1,kA c2,Bool.true_and,Bool.true_and]
    have:=q _ s1;rw[e] at this;exact this
   ·rw[aA (λz=>c2 (V.int.inj z))];have e:go r s'=false:=by unfold go;rw[yA c2,Bool.and_false,dC]
    have:=q _ LC;rw[e] at this;exact this
  ·rw[aA (λz=>c1 (V.int.inj z))];have e:go r s'=false:=by unfold go;rw[yA c1,dC,dC]
   have:=q _ LC;rw[e] at this;exact this
theorem mW {α β:Type} {F:α->β->Prop} {y:β}:∀{ys:List β} {xs:List α},Paired F xs (ys++[y])->∃zs z,xs=zs++[z]/\Paired F zs ys/\F z y
 |[],_,.cons r .nil=>⟨[],_,rfl,.nil,r⟩
 |_::_,_,.cons r t=>by
  obtain⟨zs,z,e,h1,h2⟩:=mW t;exact⟨_::zs,z,by rw[e];rfl,.cons r h1,h2⟩
theorem IS:∀(l acc:List Rn),(l.foldl XD acc).length<=acc.length+l.length
 |[],acc=>iA _
 |r::l,acc=>by
  rw[List.foldl_cons];refine YA (IS l _) ?_;have:(XD acc r).length<=acc.length+1:=by
   unfold XD;cases h:acc.getLast? with
   |none=>simp
   |some x=>
    simp only
    split
    ·rw[qA,List.length_dropLast,iB];cases acc with
     |nil=>cases h
     |cons a acc=>simp
    ·simp
  rw[jB];omega
theorem Ta {acc:List Rn} {l r:Rn} (h:go l r=false):XD (acc++[l]) r=acc++[l]++[r]:=by
 unfold XD;rw[EB];show (if go l r=true then _ else _)=_;rw[h];rfl
theorem Ua {acc:List Rn} {l r:Rn} (h:go l r=true):XD (acc++[l]) r=acc++[⟨l.f,l.m+r.m,l.r,l.t⟩]:=by
 unfold XD;rw[EB];show (if go l r=true then _ else _)=_;rw[bA h,List.dropLast_concat]
noncomputable def Va (K:W.Frag):Sp:=λvs H Q ο=>∃(a:Addr) (ws:List V) (rs:List Rn),vs=[.ref a]/\aD K H a ws/\xC H ws rs/\rs.length<=1000000/\∀t us H',vC H H'->H t=none->H' t=some (.lst us)->xC H' us (jn rs)->Q (.ref t) H'
theorem Sl (T:AD K mg A):KD P w K mg base "joined" 3 ["runs"] [] (Va K):=by
 have Po:=@zl P w K mg base A T;refine T.Ps.have tS (λvs H Q E z=>?_) ?_
 ·obtain⟨a,ws,rs,rfl,_⟩:=z;rfl
 ·intro f cdv A' outer s H vs Q E hr z;obtain⟨a,ws,rs,rfl,ha,hR,hlen,q⟩:=z;refine⟨_,(NC (sD (i:=1) tS.nd rfl (Or.inl rfl) (zH uC))
   (NC (DG WA rfl (AG (nC 0)) (pF (i:=2) tS.nd rfl (Or.inl rfl)) (EC (eD (PW.pt (GH (tD fH (SD KI rfl T.Ba PySem.boot_len (pC (nC 1) uC)) sC (rC _)) (oI (xE (lD Po (hr.mono (by decide)) KC (pC (MC uI (nC 1) (DM MM sC) (λο ο=>rfl)) (pC (nC 2) uC))))))) (NC (sD (i:=3) tS.nd rfl (Or.inl rfl) (QT PySem.F.plainAttrs_list PySem.F.slot_list_pop PySem.F.type_list_pop c5 (nC 1)))
   (EC (uE (GR PySem.F.plainAttrs_list PySem.F.slot_list_append PySem.F.type_list_append PN (nC 1) (pC (YD (pC (MC UC (nC 3) sC (λο ο=>rfl)) (pC (ZC YE (MC UC (nC 3) sC (λο ο=>rfl)) (MC UC (nC 2) sC (λο ο=>rfl))) (pC (MC UC (nC 3) sC (λο ο=>rfl)) (pC (MC UC (nC 3) sC (λο ο=>rfl)) uC))))) uC))))) (EC (uE (GR PySem.F.plainAttrs_list PySem.F.slot_list_append PySem.F.type_list_append PN (nC 1) (pC (nC 2) uC)))))))
   (EC (YC (nC 1))))),?_⟩
  unfold za;rfl';intro t ht;have sm0:=dD (o:=.lst []) LC ht;have hwl:ws.length=rs.length:=Paired.length hR;refine⟨⟨_,sm0.seq ha⟩,VI (xs:=ws) (λi σ H'=>∃us v2 v3,σ=[some (.ref a),some (.ref t),v2,v3]/\vC H H'/\H' t=some (.lst us)/\xC H' us ((rs.take i).foldl XD [])) ⟨[],_,_,rfl,sm0,SC,.nil⟩ (λi σ H' _ ⟨_,_,_,_,e,_⟩=>e.seq ha) (λi x σ H' hi=>?_) (λσ H'=>?_)⟩
  ·rintro⟨us,v2,v3,rfl,sm,ht',hU⟩;obtain⟨r,hr1,hr2⟩:=AI hR hi;have hrx:=hr2.same sm;have htk:rs.take (i+1)=rs.take i++[r]:=by rw[xB,hr1];rfl
   have hul:us.length<=i:=by
    have h1:=Paired.length hU;have h2:=IS (rs.take i) [];rw[NA] at h2;simp only[List.length_nil] at h2;omega
   have hil:i < rs.length:=(LA.mp hr1).1;rw[htk,List.foldl_append,List.foldl_cons,List.foldl_nil];generalize (rs.take i).foldl XD []=acc at *;rfl';refine⟨us.length,.inl ⟨_,aD.of ht',rfl⟩,?_⟩;rcases hacc:acc.getLast? with _|l
   ·have e0:acc=[]:=List.getLast?_eq_none_iff.mp hacc;subst e0;cases hU;rw[aA (show ¬(0:Int) < (([]:List V).length:Int) from λz=>absurd z (by decide))];refine CC ⟨.inl ⟨rfl,_,aD.of ht'⟩,_,ht',by show 0 < 16777216;decide,pG sm ht,_,rfl,?_⟩;exact .cons (hrx.same2 ht' sm) .nil
   ·obtain⟨acc0,rfl⟩:=VO hacc;obtain⟨us0,y,rfl,hU0,hy⟩:=mW hU;have hpos:(0:Int) < ((us0++[y]).length:Int):=by rw[qA,iB];omega
    rw[bA hpos];refine⟨_,aD.of ht',y,?_,l,hy,r,hrx,λH1 s1=>?_⟩
    ·unfold gH qJ;rw[aA (by decide),bA (by rw[qA,iB];omega)];show (us0++[y])[(-1+((us0++[y]).length:Int)).toNat]?=some y;rw[qA,iB,show (-1+((us0.length+1:Nat):Int)).toNat=us0.length by omega,SA (iA _),kC]
     rfl
    have ht1:=s1 _ _ ht';have sm1:=sm.trans s1;cases hg:go l r with
    |true=>
     refine qD ⟨.inl ⟨rfl,_,aD.of ht1⟩,_,ht1,y,by rw[qA,iB,Nat.add_sub_cancel,SA (iA _),kC];rfl,?_⟩;rw[List.dropLast_concat];have hy2:bD (yC H1 t (.lst us0)) y l:=(hy.same s1).same2 ht1 sm1;have hx2:bD (yC H1 t (.lst us0)) x r:=(hrx.same s1).same2 ht1 sm1;obtain⟨c,cv,rfl,hc,hcv⟩:=id hy2;obtain⟨d,dv,rfl,hd,hdv⟩:=id hx2;rfl';refine⟨.inl ⟨rfl,_,aD.of SC⟩,_,OC.of hc,_,rfl,_,OC.of hc,_,rfl,_,OC.of hd,_,rfl,_,rfl,_,rfl,_,OC.of hc,_,rfl,_,OC.of hc,_,rfl,λe he=>?_⟩;have se:=dD (o:=.tup [V.int l.f,V.int (l.m+r.m),V.int l.r,cv]) LC he;have hte:=se _ _ (SC (H:=H1) (a:=t) (o:=.lst us0));have sme:=dD (o:=.tup [V.int l.f,V.int (l.m+r.m),V.int l.r,cv]) (pG (o:=.lst us0) sm1 ht) he;refine⟨us0,hte,by rw[qA,iB] at hul;omega,pG sme ht,_,rfl,?_⟩;rw[Ua hg];refine EG (xC.same2 (xC.same (xC.same2 (xC.same hU0 s1) ht1 sm1) se) hte sme) (.cons ?_ .nil);exact bD.same2 (⟨e,cv,rfl,SC,hcv.same se⟩:bD _ (.ref e) ⟨l.f,l.m+r.m,l.r,l.t⟩) hte sme
    |false=>
     refine CC ⟨.inl ⟨rfl,_,aD.of ht1⟩,_,ht1,by rw[qA,iB] at *; omega,pG sm1 ht,_,rfl,?_⟩;rw[Ta hg];exact EG (EG (xC.same2 (xC.same hU0 s1) ht1 sm1) (.cons ((hy.same s1).same2 ht1 sm1) .nil)) (.cons ((hrx.same s1).same2 ht1 sm1) .nil)
  ·rintro⟨us,v2,v3,rfl,sm,ht',hU⟩;rfl';rw[hwl,vB] at hU;exact q _ _ _ sm ht ht' hU
noncomputable def SG (a:Addr):List (Str×V):=RD "runs" (.ref a) []
theorem eJ {a:Addr}:(SG a).lookup ("runs":Str)=some (.ref a):=by rfl
theorem tF {a:Addr} {m:Str} (h:¬m∈(["runs"]:List Str)):(SG a).lookup m=none:=by
 simp only[wA,AB,or_false] at h;unfold SG;simp only[IN,h,wB]
 rfl
noncomputable def UD (C:Addr) (H:Hp) (p a:Addr) (rs:List Rn):Prop:=∃dx vs,H p=some (.ins C dx (SG a))/\H a=some (.lst vs)/\xC H vs rs
theorem UD.same {C:Addr} {H H':Hp} {p a:Addr} {rs:List Rn} (h:UD C H p a rs) (s:vC H H'):UD C H' p a rs:=let ⟨dx,vs,h1,h2,h3⟩:=h;⟨dx,vs,s _ _ h1,s _ _ h2,xC.same h3 s⟩
noncomputable def nW (K:W.Frag) (C:Addr):Sp:=λvs H Q ο=>∃(p a:Addr) (rs:List Rn) (x:Int),vs=[.ref p,.int x]/\UD C H p a rs/\HC rs/\rs.length<=1000000/\Q (.int (pb rs x)) H
theorem Wa (T:AD K mg A):TC P w K mg base A.Aa "place_behind" 2 ["self","page"] [] (nW K A.Aa):=by
 have Bk:=@HS P w K mg base A T;refine T.B5.have XM (λvs H Q E z=>?_) ?_
 ·obtain⟨p,a,rs,x,rfl,_⟩:=z;rfl
 ·intro f cdv A' outer s H vs Q E hr z;obtain⟨p,a,rs,x,rfl,⟨dx,vs,h1,h2,h3⟩,ho,hlen,q⟩:=z;refine⟨_,(NC (sD (i:=2) XM.nd rfl (Or.inl rfl) sC)
   (NC (sD (i:=3) XM.nd rfl (Or.inl rfl) (SD KI rfl T.Ba PySem.boot_len (pC (HE (nC 0) rfl) uC)))
   (NC (iU WA (tD UF (nC 2) (nC 3) (rC _)) (NC (sD (i:=4) XM.nd rfl (Or.inl rfl) (ZC JH (ZC YE (nC 2) (nC 3)) sC))
   (EC (eD (tD fH (lD Bk (hr.mono (by decide)) KC (pC (MC uI (HE (nC 0) rfl) (nC 4) (λο ο=>rfl)) uC)) (nC 1) (rC _)) (EC (sD (i:=3) XM.nd rfl (Or.inl rfl) (nC 4))) (EC (sD (i:=2) XM.nd rfl (Or.inl rfl) (ZC YE (nC 4) sC)))))))
   (EC (YC (nC 2)))))),?_⟩
  have hvl:vs.length=rs.length:=Paired.length h3;unfold YO;rfl';simp only[h1];rfl';refine⟨T.Ai,T.Ar,_,eJ,vs.length,.inl ⟨_,aD.of h2,rfl⟩,?_⟩;refine jU (λmm σ H'=>∃(lo hi:Nat) (v4:Option V),mm=hi - lo/\σ=[some (.ref p),some (.int x),some (.int lo),some (.int hi),v4]/\H'=H/\lo<=pb rs x/\pb rs x<=hi/\hi<=rs.length) vs.length ⟨0,vs.length,_,rfl,rfl,rfl,bC _,by rw[hvl];exact WO,⋯⟩ (λmm σ H'=>?_);rintro⟨lo,hi,v4,rfl,rfl,rfl,k1,k2,k3⟩;rfl';by_cases c:(lo:Int) < (hi:Int)
  ·rw[bA c];refine VH ?_;rfl';have hmid:(lo+hi) / 2 < vs.length:=⋯;obtain⟨r,hr1,hr2⟩:=AI h3 (zA hmid);have hat:=JD (zA hmid);have em:((lo:Int)+(hi:Int)) / 2=(((lo+hi) / 2:Nat):Int):=⋯;have hpb:=XO ho (p:=x) hr1;rw[em];refine⟨_,dx,_,h1,T.Ai,T.Ar,_,eJ,a,rfl,_,aD.of h2,_,hat,r,hr2,?_⟩;by_cases c2:x < IC r
   ·rw[bA c2];have:¬(lo+hi) / 2 < pb rs x:=λz=>by have:=hpb.mp z;omega
    refine⟨(lo+hi) / 2 - lo,⋯,lo,(lo+hi) / 2,?_⟩
    first
     |exact⟨rfl,rfl,rfl,k1,⋯,⋯⟩
     |exact⟨rfl,k1,⋯,⋯⟩
     |(trace_state;exact⟨rfl,rfl,k1,⋯,⋯⟩)
   ·rw[aA c2];have:(lo+hi) / 2 < pb rs x:=hpb.mpr ⋯;refine⟨hi - ((lo+hi) / 2+1),⋯,(lo+hi) / 2+1,hi,?_⟩
    first
     |exact⟨rfl,rfl,rfl,⋯,k2,k3⟩
     |exact⟨rfl,⋯,k2,k3⟩
     |(trace_state;exact⟨rfl,⋯,rfl,⋯,k2,k3⟩)
  ·rw[aA c];have e:pb rs x=lo:=⋯;rw[e] at q;exact q
theorem oW {xs:List V} {lo hi:Nat}:DE xs (some (lo:Int)) (some (hi:Int))=(xs.take hi).drop lo:=by
 unfold DE;show (xs.drop (if (lo:Int) < 0 then ((lo:Int)+(xs.length:Int)).toNat else min (lo:Int).toNat xs.length)).take ((if (hi:Int) < 0 then ((hi:Int)+(xs.length:Int)).toNat else min (hi:Int).toNat xs.length) - (if (lo:Int) < 0 then ((lo:Int)+(xs.length:Int)).toNat else min (lo:Int).toNat xs.length))=_;rw[aA ⋯,aA ⋯,Int.toNat_natCast,Int.toNat_natCast,List.drop_take];refine List.ext_getElem? λk=>?_;rw[List.getElem?_take,List.getElem?_take,List.getElem?_drop,List.getElem?_drop];by_cases h1:k < hi - lo
 ·rw[bA h1];by_cases h2:k < min hi xs.length - min lo xs.length
  ·rw[bA h2,Nat.min_eq_left ⋯]
  ·rw[aA h2,List.getElem?_eq_none_iff.mpr ⋯]
 ·rw[aA h1];by_cases h2:k < min hi xs.length - min lo xs.length
  ·rw[bA h2,List.getElem?_eq_none_iff.mpr ⋯]
  ·rw[aA h2]
theorem Xa {xs:List V} {hi:Nat}:DE xs none (some (hi:Int))=xs.take hi:=by
 unfold DE;show (xs.drop 0).take ((if (hi:Int) < 0 then ((hi:Int)+(xs.length:Int)).toNat else min (hi:Int).toNat xs.length) - 0)=_;rw[aA ⋯,Int.toNat_natCast,List.drop_zero,Nat.sub_zero];rcases Nat.le_total hi xs.length with h|h
 ·rw[Nat.min_eq_left h]
 ·rw[Nat.min_eq_right h,vB,MB h]
theorem Tl {xs:List V} {lo:Nat}:DE xs (some (lo:Int)) none=xs.drop lo:=by
 unfold DE;show (xs.drop (if (lo:Int) < 0 then ((lo:Int)+(xs.length:Int)).toNat else min (lo:Int).toNat xs.length)).take (xs.length - (if (lo:Int) < 0 then ((lo:Int)+(xs.length:Int)).toNat else min (lo:Int).toNat xs.length))=_;rw[aA ⋯,Int.toNat_natCast];rcases Nat.le_total lo xs.length with h|h
 ·rw[Nat.min_eq_left h];exact MB (by rw[GB];omega)
 ·rw[Nat.min_eq_right h,kC,fC,List.drop_eq_nil_of_le h]
noncomputable def ZO (K:W.Frag) (C:Addr):Sp:=λvs H Q ο=>∃(p a:Addr) (rs:List Rn) (x n:Int),vs=[.ref p,.int x,.int n]/\UD C H p a rs/\HC rs/\rs.length<=1000000/\∀t us H',vC H H'->H t=none->H' t=some (.lst us)->xC H' us (aE rs x n)->Q (.ref t) H'
theorem JS (T:AD K mg A):TC P w K mg base A.Aa "parts_amid" 4 ["self","first","many"] [] (ZO K A.Aa):=by
 have Cz:=@ya P w K mg base A T;have Aw:=@Wa P w K mg base A T;refine T.C2.have TU (λvs H Q E z=>?_) ?_
 ·obtain⟨p,a,rs,x,n,rfl,_⟩:=z;rfl
 ·intro f cdv A' outer s H vs Q E hr z;obtain⟨p,a,rs,x,n,rfl,hS,ho,hlen,q⟩:=z;obtain⟨dx,vs,h1,h2,h3⟩:=id hS;refine⟨_,(NC (sD (i:=3) TU.nd rfl (Or.inr rfl) (ZC YE (nC 1) (nC 2)))
   (NC (sD (i:=4) TU.nd rfl (Or.inl rfl) (EM FM (HE (nC 0) rfl) (LI (TD (nC 0) T.Ai Aw (hr.mono (by decide)) KC (pC (nC 1) uC))) (LI (ZC YE (TD (nC 0) T.Ai Aw (hr.mono (by decide)) KC (pC (nC 3) uC)) sC))))
   (EC (YC (mO rfl (AG (nC 4)) (x:="run") (fs:=["first","end"]) (ix:=[1,3]) rfl rfl (λο ο ο ο ο ο=>(pF (i:=0) (show (["run","first","end"]:List Str).Nodup by decide+kernel) rfl (Or.inl rfl))) (λο ο ο ο ο ο=>(MR (tD UF (MC (xI (K:=K) rfl) (nC 0) sC (λο ο=>rfl)) (nC 2) (rC _)))) (λο ο ο ο ο ο=>(lD Cz (hr.mono (by decide)) RM (pC (nC 0) (pC (nC 1) (pC (nC 2) uC)))))))))),?_⟩
  unfold lW nW;rfl';simp only[h1];rfl';refine⟨T.Ai,T.Ar,_,eJ,tF ∅,a,rs,hS,ho,hlen,tF ∅,a,rs,hS,ho,hlen,?_⟩;refine⟨a,rfl,_,aD.of h2,λsl hsl=>⟨⟨_,aD.of SC⟩,?_⟩⟩;have ecut:DE vs (some ((pb rs x:Nat):Int)) (some (((pb rs (x+n):Nat):Int)+1))=(vs.take (pb rs (x+n)+1)).drop (pb rs x):=oW (hi:=pb rs (x+n)+1);rw[ecut];have hnear:xC H ((vs.take (pb rs (x+n)+1)).drop (pb rs x)) (sE rs (pb rs x) (pb rs (x+n)+1)):=GS _ (FS _ h3);have q':∀t us H',vC H H'->H t=none->H' t=some (.lst us)->xC H' us (((sE rs (pb rs x) (pb rs (x+n)+1)).filter λr=>decide (r.f < x+n)).map λr=>rE r x (x+n))->Q (.ref t) H':=q;have hnl:(sE rs (pb rs x) (pb rs (x+n)+1)).length<=1000000:=by
   unfold sE;rw[GB,NA];omega
  generalize (vs.take (pb rs (x+n)+1)).drop (pb rs x)=nv at *;generalize sE rs (pb rs x) (pb rs (x+n)+1)=near at *;intro D hD;have s1:=dD (o:=.lst nv) LC hsl;have hnvl:nv.length=near.length:=Paired.length hnear;refine bL (xs:=nv) (λi ys σ H'=>∃v,σ=[v,some (.int x),some (.int (x+n))]/\vC (yC H sl (.lst nv)) H'/\H' D=some (.lst ys)/\xC H' ys (((near.take i).filter λr=>decide (r.f < x+n)).map λr=>rE r x (x+n))) ⟨_,rfl,dD LC hD,SC,.nil⟩ (λi ys σ H' _ ⟨_,_,s2,_⟩=>aD.of (s2 _ _ SC)) (λi v ys σ H' hi=>?_) (λys σ H'=>?_)
  ·rintro⟨v0,rfl,s2,hDD,hys⟩;obtain⟨r,hr1,hr2⟩:=AI hnear hi;have hrx:=hr2.same (s1.trans s2);have htk:near.take (i+1)=near.take i++[r]:=by rw[xB,hr1];rfl
   have hil:i < near.length:=(LA.mp hr1).1;have hyl:ys.length<=i:=by
    have h4:=Paired.length hys;rw[dA] at h4;have h5:=BB (λr:Rn=>decide (r.f < x+n)) (near.take i);rw[NA] at h5;omega
   rw[htk,List.filter_append,KA];obtain⟨c,cv,rfl,hc,hcv⟩:=id hrx;rfl';refine⟨_,OC.of hc,_,rfl,_,rfl,?_⟩;by_cases c1:r.f < x+n
   ·rw[bA c1];refine⟨r,hrx,λu H2 s3 hu=>?_⟩;have hD2:=s3 _ _ hDD;have hu2:bD (yC H2 D (.lst (ys++[u]))) u (rE r x (x+n)):=bD.same2 (H:=H2) hu hD2 LC;have hys2:xC (yC H2 D (.lst (ys++[u]))) ys (((near.take i).filter λr=>decide (r.f < x+n)).map λr=>rE r x (x+n)):=xC.same2 (H:=H2) (xC.same hys s3) hD2 LC;refine⟨hD2,⋯,pG (s2.trans s3) hD,?_⟩;have ef:[r].filter (λr=>decide (r.f < x+n))=[r]:=by rw[dB,kA c1];rfl
    rw[ef];exact EG hys2 (.cons hu2 .nil)
   ·rw[aA c1];have ef:[r].filter (λr=>decide (r.f < x+n))=[]:=by rw[dB,yA c1];rfl
    rw[ef,KB,IB];exact⟨s2,hDD,hys⟩
  ·rintro⟨v0,rfl,s2,hDD,hys⟩;rw[hnvl,vB] at hys;exact q' _ _ _ (s1.trans s2) (YV s1 hD) hDD hys
noncomputable def Za (C:Addr):Sp:=λvs H Q ο=>∃(p a:Addr) (rs:List Rn) (x n:Int),vs=[.ref p,.int x,.int n]/\UD C H p a rs/\HC rs/\rs.length<=1000000/\∀H',vC H H'->Q (.bl (decide (aE rs x n=[]))) H'
theorem GL (T:AD K mg A):TC P w K mg base A.Aa "is_free" 5 ["self","first","many"] [] (Za A.Aa):=by
 have At:=@JS P w K mg base A T;refine T.Ep.have Vj (λvs H Q E z=>?_) ?_
 ·obtain⟨p,a,rs,x,n,rfl,_⟩:=z;rfl
 ·intro f cdv A' outer s H vs Q E hr z;obtain⟨p,a,rs,x,n,rfl,hS,ho,hlen,q⟩:=z;obtain⟨dx,vs,h1,h2,h3⟩:=id hS;refine⟨_,(EC (YC (GG pE (SD KI rfl T.Ba PySem.boot_len (pC (TD (nC 0) T.Ai At (hr.mono (by decide)) KC (pC (nC 1) (pC (nC 2) uC))) uC)) sC (rC _)))),?_⟩;unfold ZO;rfl';simp only[h1];rfl';refine⟨tF ∅,a,rs,hS,ho,hlen,λt us H1 s1 ht0 ht hU=>⟨us.length,.inl ⟨_,aD.of ht,rfl⟩,?_⟩⟩;have hl:=Paired.length hU;have e:decide ((us.length:Int)=0)=decide (aE rs x n=[]):=by
   rw[decide_eq_decide,<-List.length_eq_zero_iff,<-hl];omega
  rw[e];exact q _ s1
noncomputable def bb (C:Addr):Sp:=λvs H Q ο=>∃(p a:Addr) (rs:List Rn) (x n:Int),vs=[.ref p,.int x,.int n]/\UD C H p a rs/\HC rs/\rs.length<=1000000/\∀H',vC H H'->Q (.bl (decide (((aE rs x n).map (·.m)).sum=n))) H'
theorem HL (T:AD K mg A):TC P w K mg base A.Aa "is_full" 5 ["self","first","many"] [] (bb A.Aa):=by
 have At:=@JS P w K mg base A T;refine T.Er.have Wj (λvs H Q E z=>?_) ?_
 ·obtain⟨p,a,rs,x,n,rfl,_⟩:=z;rfl
 ·intro f cdv A' outer s H vs Q E hr z;obtain⟨p,a,rs,x,n,rfl,hS,ho,hlen,q⟩:=z;obtain⟨dx,vs,h1,h2,h3⟩:=id hS;refine⟨_,(EC (YC (GG pE (SD (ki rfl) rfl T.Sg ∅ (pC (mO rfl (AG (TD (nC 0) T.Ai At (hr.mono (by decide)) KC (pC (nC 1) (pC (nC 2) uC)))) (x:="part") (fs:=[]) (ix:=[]) rfl rfl (λο ο ο ο ο ο=>(pF (i:=0) (show (["part"]:List Str).Nodup by decide+kernel) rfl (Or.inl rfl))) (λο ο ο ο ο ο=>lO) (λο ο ο ο ο ο=>(MC (xI (K:=K) rfl) (nC 0) sC (λο ο=>rfl)))) uC)) (nC 2) (rC _)))),?_⟩;unfold ZO;rfl';simp only[h1];rfl';refine⟨tF ∅,a,rs,hS,ho,hlen,λt us H1 s1 ht0 ht hU=>⟨⟨_,aD.of ht⟩,λD hD=>?_⟩⟩;refine bL (xs:=us) (λi ys σ H'=>∃v,σ=[v]/\vC H1 H'/\H' D=some (.lst ys)/\ys=(((aE rs x n).take i).map (·.m)).map V.int) ⟨_,rfl,dD LC hD,SC,rfl⟩ (λi ys σ H' _ ⟨_,_,s2,_⟩=>aD.of (s2 _ _ ht)) (λi v ys σ H' hi=>?_) (λys σ H'=>?_)
  ·rintro⟨v0,rfl,s2,hDD,rfl⟩;obtain⟨r,hr1,hr2⟩:=AI hU hi;obtain⟨c,cv,rfl,hc,hcv⟩:=hr2.same s2;have htk:(aE rs x n).take (i+1)=(aE rs x n).take i++[r]:=by rw[xB,hr1];rfl
   have hpl:(aE rs x n).length<=1000000:=by
    unfold aE sE;rw[dA];refine YA (BB _ _) ?_;rw[GB,NA];omega
   rfl';refine⟨_,OC.of hc,_,rfl,hDD,by rw[dA,dA,NA];omega,pG s2 hD,?_⟩;rw[htk,KA,KA];rfl
  ·rintro⟨v0,rfl,s2,hDD,rfl⟩;rw[Paired.length hU,vB] at hDD;exact⟨_,aD.of hDD,q _ (s1.trans s2)⟩
noncomputable def jD (b:Int) (x:Rn):Bool:=match x.t with|none=>false|some t=>decide (t.1=b)
noncomputable def cb (C:Addr):Sp:=λvs H Q ο=>∃(p a:Addr) (rs:List Rn) (b:Int),vs=[.ref p,.int b]/\UD C H p a rs/\rs.length<=1000000/\∀H',vC H H'->Q (.bl (rs.any (jD b))) H'
theorem IL (T:AD K mg A):TC P w K mg base A.Aa "is_tied" 1 ["self","bank"] [] (cb A.Aa):=by
 refine T.Es.have Xj (λvs H Q E z=>?_) ?_
 ·obtain⟨p,a,rs,b,rfl,_⟩:=z;rfl
 ·intro f cdv A' outer s H vs Q E hr z;obtain⟨p,a,rs,b,rfl,hS,hlen,q⟩:=z;obtain⟨dx,vs,h1,h2,h3⟩:=id hS;refine⟨_,(EC (YC (SD (i7 rfl) rfl T.Qz ∅ (pC (mO rfl (AG (HE (nC 0) rfl)) (x:="run") (fs:=["bank"]) (ix:=[1]) rfl rfl (λο ο ο ο ο ο=>(pF (i:=0) (show (["run","bank"]:List Str).Nodup by decide+kernel) rfl (Or.inl rfl))) (λο ο ο ο ο ο=>lO) (λο ο ο ο ο ο=>(cH (GG HN (MC (xI (K:=K) rfl) (nC 0) sC (λο ο=>rfl)) XE (rC _)) (pI (GG pE (MC (xI (K:=K) rfl) (MC (xI (K:=K) rfl) (nC 0) sC (λο ο=>rfl)) sC (λο ο=>rfl)) (nC 1) (rC _)))))) uC)))),?_⟩;rfl';simp only[h1];rfl';refine⟨T.Ai,T.Ar,_,eJ,a,rfl,⟨_,aD.of h2⟩,λD hD=>?_⟩;refine bL (xs:=vs) (λi ys σ H'=>∃v,σ=[v,some (.int b)]/\vC H H'/\H' D=some (.lst ys)/\ys=((rs.take i).map (jD b)).map V.bl) ⟨_,rfl,dD LC hD,SC,rfl⟩ (λi ys σ H' _ ⟨_,_,s2,_⟩=>aD.of (s2 _ _ h2)) (λi v ys σ H' hi=>?_) (λys σ H'=>?_)
  ·rintro⟨v0,rfl,s2,hDD,rfl⟩;obtain⟨r,hr1,hr2⟩:=AI h3 hi;obtain⟨c,cv,rfl,hc,hcv⟩:=hr2.same s2;have htk:rs.take (i+1)=rs.take i++[r]:=by rw[xB,hr1];rfl
   rw[htk,KA,KA];have hfin:∀k:Bool,k=jD b r->H' D=some (.lst (((rs.take i).map (jD b)).map V.bl))/\(((rs.take i).map (jD b)).map V.bl).length < 16777216/\vC H (yC H' D (.lst (((rs.take i).map (jD b)).map V.bl++[V.bl k])))/\((rs.take i).map (jD b)).map V.bl++[V.bl k]=((rs.take i).map (jD b)).map V.bl++([r].map (jD b)).map V.bl:=λk e=>by
    refine⟨hDD,by rw[dA,dA,NA];omega,pG s2 hD,?_⟩;rw[e];rfl
   rfl';refine⟨_,OC.of hc,cv,rfl,?_⟩;cases e:r.t with
   |none=>
    rw[e] at hcv;have hcv:cv=.non:=hcv;rw[hcv,kA rfl];exact CC (hfin false (by unfold jD;rw[e]))
   |some t=>
    obtain⟨b2,k2⟩:=t;rw[e] at hcv;obtain⟨a2,rfl,h⟩:=hcv;rw[yA (λz=>nomatch z)];refine qD ⟨_,OC.of hc,_,rfl,a2,rfl,_,OC.of h,.int b2,rfl,rfl,hfin _ ?_⟩;unfold jD;rw[e];show decide (V.int b2=V.int b)=decide (b2=b);rw[decide_eq_decide];exact⟨λz=>V.int.inj z,λz=>by rw[z]⟩
  ·rintro⟨v0,rfl,s2,hDD,rfl⟩;rw[Paired.length h3,vB] at hDD;refine⟨_,aD.of hDD,?_⟩;rw[List.any_map];exact q _ s2
noncomputable def db (C:Addr):Sp:=λvs H Q ο=>∃(p a:Addr) (rs:List Rn),vs=[.ref p]/\UD C H p a rs/\∀t us,H t=none->xC (yC H t (.lst us)) us rs->Q (.ref t) (yC H t (.lst us))
theorem Ul (T:AD K mg A):TC P w K mg base A.Aa "told" 1 ["self"] [] (db A.Aa):=by
 refine T.Ib.have Yj (λvs H Q E z=>?_) ?_
 ·obtain⟨p,a,rs,rfl,_⟩:=z;rfl
 ·intro f cdv A' outer s H vs Q E hr z;obtain⟨p,a,rs,rfl,hS,q⟩:=z;obtain⟨dx,vs,h1,h2,h3⟩:=id hS;refine⟨_,(EC (YC (MT X4 rfl T.Je PyProof.Rows.boot_list (pC (HE (nC 0) rfl) uC)))),?_⟩;rfl';simp only[h1];rfl';refine⟨T.Ai,T.Ar,_,eJ,a,rfl,_,.inl (aD.of h2),λt ht=>?_⟩;exact q t vs ht (xC.same h3 (dD LC ht))
noncomputable def pW (C:Addr):Sp:=λvs H Q ο=>∃(p a:Addr) (rs:List Rn) (x:Int),vs=[.ref p,.int x]/\UD C H p a rs/\HC rs/\rs.length<=1000000/\∀v H',vC H H'->((v=.non/\pm rs x=none)\/∃y,bD H' v y/\pm rs x=some (y.r,y.t))->Q v H'
theorem XJ (T:AD K mg A):TC P w K mg base A.Aa "part_at" 5 ["self","page"] [] (pW A.Aa):=by
 have At:=@JS P w K mg base A T;refine T.Et.have j9 (λvs H Q E z=>?_) ?_
 ·obtain⟨p,a,rs,x,rfl,_⟩:=z;rfl
 ·intro f cdv A' outer s H vs Q E hr z;obtain⟨p,a,rs,x,rfl,hS,ho,hlen,q⟩:=z;obtain⟨dx,vs,h1,h2,h3⟩:=id hS;refine⟨_,(NC (sD (i:=2) j9.nd rfl (Or.inl rfl) (TD (nC 0) T.Ai At (hr.mono (by decide)) KC (pC (nC 1) (pC sC uC))))
   (EC (YC (DR (tD fH (SD KI rfl T.Ba PySem.boot_len (pC (nC 2) uC)) sC (rC _)) (MC uI (nC 2) sC (λο ο=>rfl)) XE)))),?_⟩
  unfold ZO;rfl';simp only[h1];rfl';refine⟨tF ∅,a,rs,hS,ho,hlen,λt us H1 s1 ht0 ht hU=>⟨us.length,.inl ⟨_,aD.of ht,rfl⟩,?_⟩⟩;rcases wl (p:=x) ho with ⟨e1,e2⟩|⟨y,e1,e2⟩
  ·rw[e1] at hU;cases hU;rw[aA (show ¬(0:Int) < (([]:List V).length:Int) from λz=>absurd z (by decide))];exact q _ _ s1 (.inl ⟨rfl,e2⟩)
  ·rw[e1] at hU;cases hU with
   |cons hy hn=>
    cases hn;rw[bA (show (0:Int) < (([_]:List V).length:Int) from by show (0:Int) < 1;decide)];exact⟨_,aD.of ht,_,JD (j:=0) rfl,q _ _ s1 (.inr ⟨y,hy,e2⟩)⟩
noncomputable def oR:Option (Int×Option (Int×Int))->V
 |none=>.non
 |some (r,_)=>.int r
noncomputable def fb (C:Addr):Sp:=λvs H Q ο=>∃(p a:Addr) (rs:List Rn) (x:Int),vs=[.ref p,.int x]/\UD C H p a rs/\HC rs/\rs.length<=1000000/\∀H',vC H H'->Q (oR (pm rs x)) H'
theorem aP (T:AD K mg A):TC P w K mg base A.Aa "rights_at" 6 ["self","page"] [] (fb A.Aa):=by
 have Bi:=@XJ P w K mg base A T;refine T.Dm.have m9 (λvs H Q E z=>?_) ?_
 ·obtain⟨p,a,rs,x,rfl,_⟩:=z;rfl
 ·intro f cdv A' outer s H vs Q E hr z;obtain⟨p,a,rs,x,rfl,hS,ho,hlen,q⟩:=z;obtain⟨dx,vs,h1,h2,h3⟩:=id hS;refine⟨_,(NC (sD (i:=2) m9.nd rfl (Or.inl rfl) (TD (nC 0) T.Ai Bi (hr.mono (by decide)) KC (pC (nC 1) uC)))
   (EC (YC (DR (tD sI (nC 2) XE (rC _)) XE (MC UC (nC 2) sC (λο ο=>rfl)))))),?_⟩
  unfold pW;rfl';simp only[h1];rfl';refine⟨tF ∅,a,rs,hS,ho,hlen,λv H1 s1 h=>?_⟩;rcases h with ⟨rfl,e⟩|⟨y,hy,e⟩
  ·rw[bA rfl];have:=q _ s1;rw[e] at this;exact this
  ·obtain⟨c,cv,rfl,hc,hcv⟩:=hy;rw[aA (λz=>nomatch z)];have:=q _ s1;rw[e] at this
   first
    |exact⟨_,OC.of hc,_,rfl,this⟩
    |(rfl';exact⟨_,OC.of hc,_,rfl,this⟩)
noncomputable def jb (C:Addr):Sp:=λvs H Q ο=>∃(p a:Addr) (rs:List Rn) (x:Int),vs=[.ref p,.int x]/\UD C H p a rs/\HC rs/\rs.length<=1000000/\∀v H',vC H H'->vD H' v ((pm rs x).bind (·.2))->Q v H'
theorem bP (T:AD K mg A):TC P w K mg base A.Aa "tie_at" 6 ["self","page"] [] (jb A.Aa):=by
 have Bi:=@XJ P w K mg base A T;refine T.Ft.have o9 (λvs H Q E z=>?_) ?_
 ·obtain⟨p,a,rs,x,rfl,_⟩:=z;rfl
 ·intro f cdv A' outer s H vs Q E hr z;obtain⟨p,a,rs,x,rfl,hS,ho,hlen,q⟩:=z;obtain⟨dx,vs,h1,h2,h3⟩:=id hS;refine⟨_,(NC (sD (i:=2) o9.nd rfl (Or.inl rfl) (TD (nC 0) T.Ai Bi (hr.mono (by decide)) KC (pC (nC 1) uC)))
   (EC (YC (DR (tD sI (nC 2) XE (rC _)) XE (MC UC (nC 2) sC (λο ο=>rfl)))))),?_⟩
  unfold pW;rfl';simp only[h1];rfl';refine⟨tF ∅,a,rs,hS,ho,hlen,λv H1 s1 h=>?_⟩;rcases h with ⟨rfl,e⟩|⟨y,hy,e⟩
  ·rw[bA rfl];exact q _ _ s1 (by rw[e];rfl)
  ·obtain⟨c,cv,rfl,hc,hcv⟩:=hy;rw[aA (λz=>nomatch z)];have:=q _ _ s1 (by rw[e];exact hcv)
   first
    |exact⟨_,OC.of hc,_,rfl,this⟩
    |(rfl';exact⟨_,OC.of hc,_,rfl,this⟩)
noncomputable def qW (C:Addr):Sp:=λvs H Q ο=>∃(p dx:Addr),vs=[.ref p]/\H p=some (.ins C dx [])/\∀a,H a=none->Q .non (yC (yC H a (.lst [])) p (.ins C dx (SG a)))
theorem kb (T:AD K mg A):DF P w K mg base "Stretches" A.Aa 1 ["self"] [] (qW A.Aa):=by
 refine T.Ia.have yj (λvs H Q E z=>?_) ?_
 ·obtain⟨p,dx,rfl,_⟩:=z;rfl
 ·intro f cdv A' outer s H vs Q E hr z;obtain⟨p,dx,rfl,hp,q⟩:=z;refine⟨_,(EC (yH (nC 0) (zH uC) rfl)),?_⟩;rfl';intro a ha;have hpa:p≠a:=AE hp ha;refine⟨_,dx,[],by rw[WC hpa];exact hp,T.Ai,T.Ar,by show 0 < 1000;decide,?_⟩;exact q a ha
noncomputable def KS (O:Addr):Sp:=λvs H Q E=>∃x:V,vs=[x]/\Kn H x/\if jE x 0 3=true then Q .non H else E (.ref O) none H
theorem JL (T:AD K mg A):KD P w K mg base "check_rights" 3 ["rights"] [] (KS A.Ab):=by
 have Av:=@YM P w K mg base A T;refine T.Jy.have vj (λvs H Q E z=>?_) ?_
 ·obtain⟨x,rfl,_⟩:=z;rfl
 ·intro f cdv A' outer s H vs Q E hr z;obtain⟨x,rfl,hk,q⟩:=z;refine⟨_,(EC (eD (ZF (xE (lD Av (hr.mono (by decide)) KC (pC (nC 0) (pC sC (pC (PH rfl T.K0) uC)))))) (EC (BH AH rfl T.Nt (pC wD uC))) fD)),?_⟩;unfold sp_is_within;rfl';refine⟨hk,?_⟩;cases e:jE x 0 3 with
  |true=>rw[e,bA rfl] at q;exact CC q
  |false=>rw[e,aA (show ¬false=true by decide)] at q;exact qD q
noncomputable def Bu (p:Addr) (H H':Hp):Prop:=∀c o,H c=some o->c≠p->H' c=some o
noncomputable def LS (C:Addr):Sp:=λvs H Q ο=>∃(p a b:Addr) (rs parts:List Rn) (x n:Int) (ws:List V),vs=[.ref p,.int x,.int n,.ref b]/\UD C H p a rs/\HC rs/\rs.length<=100000/\H b=some (.lst ws)/\xC H ws parts/\parts.length<=100000/\∀a' H',UD C H' p a' (ZD rs x n parts)->Bu p H H'->Q .non H'
theorem rW (T:AD K mg A):TC P w K mg base A.Aa "lay_amid" 5 ["self","first","many","parts"] [] (LS A.Aa):=by
 have Cz:=@ya P w K mg base A T;have Bk:=@HS P w K mg base A T;have Qw:=@Sl P w K mg base A T;have Aw:=@Wa P w K mg base A T;refine T.Dx.have zL (λvs H Q E z=>?_) ?_
 ·obtain⟨p,a,b,rs,parts,x,n,ws,rfl,_⟩:=z;rfl
 ·intro f cdv A' outer s H vs Q E hr z;obtain⟨p,a,b,rs,parts,x,n,ws,rfl,hS,ho,hlen,hb,hP,hpl,q⟩:=z;obtain⟨dx,vs,h1,h2,h3⟩:=id hS;refine⟨_,(NC (sD (i:=4) zL.nd rfl (Or.inr rfl) (ZC YE (nC 1) (nC 2)))
   (NC (sD (i:=5) zL.nd rfl (Or.inl rfl) (TD (nC 0) T.Ai Aw (hr.mono (by decide)) KC (pC (ZC YG (nC 1) sC) uC)))
   (NC (sD (i:=6) zL.nd rfl (Or.inl rfl) (ZC YE (TD (nC 0) T.Ai Aw (hr.mono (by decide)) KC (pC (nC 4) uC)) sC))
   (NC (sD (i:=7) zL.nd rfl (Or.inl rfl) (EM FM (HE (nC 0) rfl) (LI (nC 5)) (LI (nC 6))))
   (NC (NR (i:=8) zL.nd rfl rfl rfl (AG (nC 7)) (x:="run") (fs:=["first"]) (ix:=[1]) rfl rfl (λο ο ο ο ο ο=>(pF (i:=0) (show (["run","first"]:List Str).Nodup by decide+kernel) rfl (Or.inl rfl))) (λο ο ο ο ο ο=>(MR (tD UF (MC (xI (K:=K) rfl) (nC 0) sC (λο ο=>rfl)) (nC 1) (rC _)))) (λο ο ο ο ο ο=>(lD Cz (hr.mono (by decide)) RM (pC (nC 0) (pC (MC (xI (K:=K) rfl) (nC 0) sC (λο ο=>rfl)) (pC (nC 1) uC))))))
   (NC (NR (i:=9) zL.nd rfl rfl rfl (AG (nC 7)) (x:="run") (fs:=["end"]) (ix:=[4]) rfl rfl (λο ο ο ο ο ο=>(pF (i:=0) (show (["run","end"]:List Str).Nodup by decide+kernel) rfl (Or.inl rfl))) (λο ο ο ο ο ο=>(MR (tD fH (lD Bk (hr.mono (by decide)) RM (pC (nC 0) uC)) (nC 1) (rC _)))) (λο ο ο ο ο ο=>(lD Cz (hr.mono (by decide)) RM (pC (nC 0) (pC (nC 1) (pC (lD Bk (hr.mono (by decide)) RM (pC (nC 0) uC)) uC))))))
   (EC (yH (nC 0) (ZC HM (ZC HM (EM FM (HE (nC 0) rfl) NT (LI (nC 5))) (lD Qw (hr.mono (by decide)) KC (pC (ZC HM (ZC HM (nC 8) (nC 3)) (nC 9)) uC))) (EM FM (HE (nC 0) rfl) (LI (nC 6)) NT)) rfl)))))))),?_⟩
  unfold lW YO Va nW;rfl';simp only[h1];rfl';refine⟨tF ∅,a,rs,hS,ho,⋯,tF ∅,a,rs,hS,ho,⋯,T.Ai,T.Ar,_,eJ,a,rfl,_,aD.of h2,λsl hsl=>⟨⟨_,aD.of SC⟩,?_⟩⟩;have ecut:DE vs (some ((pb rs (x - 1):Nat):Int)) (some (((pb rs (x+n):Nat):Int)+1))=(vs.take (pb rs (x+n)+1)).drop (pb rs (x - 1)):=oW (hi:=pb rs (x+n)+1);rw[ecut];have hnear:xC H ((vs.take (pb rs (x+n)+1)).drop (pb rs (x - 1))) (sE rs (pb rs (x - 1)) (pb rs (x+n)+1)):=GS _ (FS _ h3);have hnl:(sE rs (pb rs (x - 1)) (pb rs (x+n)+1)).length<=100000:=by
   unfold sE;rw[GB,NA];omega
  have q':∀a' H',UD A.Aa H' p a' (rs.take (pb rs (x - 1))++jn (((sE rs (pb rs (x - 1)) (pb rs (x+n)+1)).filter λr=>decide (r.f < x)).map (λr=>rE r r.f x)++parts++((sE rs (pb rs (x - 1)) (pb rs (x+n)+1)).filter λr=>decide (IC r > x+n)).map (λr=>rE r (x+n) (IC r)))++rs.drop (pb rs (x+n)+1))->Bu p H H'->Q .non H':=q;generalize (vs.take (pb rs (x+n)+1)).drop (pb rs (x - 1))=nv at *;generalize sE rs (pb rs (x - 1)) (pb rs (x+n)+1)=near at *;intro D1 hD1;have s1:=dD (o:=.lst nv) LC hsl;have hnvl:nv.length=near.length:=Paired.length hnear;have flen:∀(i:Nat) (g:Rn->Bool),((near.take i).filter g).length<=100000:=λi g=>YA (BB _ _) (by rw[NA];omega);refine bL (xs:=nv) (λi ys σ H'=>∃v,σ=[v,some (.int x)]/\vC (yC H sl (.lst nv)) H'/\H' D1=some (.lst ys)/\xC H' ys (((near.take i).filter λr=>decide (r.f < x)).map λr=>rE r r.f x)) ⟨_,rfl,dD LC hD1,SC,.nil⟩ (λi ys σ H' _ ⟨_,_,s2,_⟩=>aD.of (s2 _ _ SC)) (λi v ys σ H' hi=>?_) (λys σ H'=>?_)
  ·rintro⟨v0,rfl,s2,hDD,hys⟩;obtain⟨r,hr1,hr2⟩:=AI hnear hi;have hrx:=hr2.same (s1.trans s2);have htk:near.take (i+1)=near.take i++[r]:=by rw[xB,hr1];rfl
   have hyl:ys.length<=100000:=by
    have h4:=Paired.length hys;rw[dA] at h4;have:=flen i λr=>decide (r.f < x);omega
   rw[htk,List.filter_append,KA];obtain⟨c,cv,rfl,hc,hcv⟩:=id hrx;rfl';refine⟨_,OC.of hc,_,rfl,_,rfl,?_⟩;by_cases c1:r.f < x
   ·rw[bA c1];refine⟨_,OC.of hc,_,rfl,r,_,rfl,hrx,λu H2 s3 hu=>?_⟩;have hD2:=s3 _ _ hDD;refine⟨hD2,⋯,pG (s2.trans s3) hD1,?_⟩;have ef:[r].filter (λr=>decide (r.f < x))=[r]:=by rw[dB,kA c1];rfl
    rw[ef];exact EG (xC.same2 (H:=H2) (xC.same hys s3) hD2 LC) (.cons (bD.same2 (H:=H2) hu hD2 LC) .nil)
   ·rw[aA c1];have ef:[r].filter (λr=>decide (r.f < x))=[]:=by rw[dB,yA c1];rfl
    rw[ef,KB,IB];exact⟨s2,hDD,hys⟩
  rintro⟨v0,rfl,s2,hA,hys⟩;rw[hnvl,vB] at hys;have hsl1:=s2 _ _ (SC (H:=H) (a:=sl) (o:=.lst nv));refine⟨⟨_,aD.of hsl1⟩,λD2 hD2=>?_⟩;have s12:=s1.trans s2;refine bL (xs:=nv) (λi zs σ H2=>∃v,σ=[v,some (.int (x+n))]/\vC H' H2/\H2 D2=some (.lst zs)/\xC H2 zs (((near.take i).filter λr=>decide (IC r > x+n)).map λr=>rE r (x+n) (IC r))) ⟨_,rfl,dD LC hD2,SC,.nil⟩ (λi ys σ H' _ ⟨_,_,s2,_⟩=>aD.of (s2 _ _ hsl1)) (λi v zs σ H2 hi=>?_) (λzs σ H2=>?_)
  ·rintro⟨v0,rfl,s3,hDD,hzs⟩;obtain⟨r,hr1,hr2⟩:=AI hnear hi;have hrx:=hr2.same (s12.trans s3);have htk:near.take (i+1)=near.take i++[r]:=by rw[xB,hr1];rfl
   have hyl:zs.length<=100000:=by
    have h4:=Paired.length hzs;rw[dA] at h4;have:=flen i λr=>decide (IC r > x+n);omega
   rw[htk,List.filter_append,KA];rfl';refine⟨r,hrx,?_⟩;by_cases c1:IC r > x+n
   ·rw[bA (show x+n < IC r from c1)];refine⟨r,hrx,r,hrx,λu H3 s4 hu=>?_⟩;have hD3:=s4 _ _ hDD;refine⟨hD3,⋯,pG (s3.trans s4) hD2,?_⟩;have ef:[r].filter (λr=>decide (IC r > x+n))=[r]:=by rw[dB,kA c1];rfl
    rw[ef];exact EG (xC.same2 (H:=H3) (xC.same hzs s4) hD3 LC) (.cons (bD.same2 (H:=H3) hu hD3 LC) .nil)
   ·rw[aA (show ¬x+n < IC r from c1)];have ef:[r].filter (λr=>decide (IC r > x+n))=[]:=by rw[dB,yA c1];rfl
    rw[ef,KB,IB];exact⟨s3,hDD,hzs⟩
  rintro⟨v0,rfl,s3,hB,hzs⟩;rw[hnvl,vB] at hzs;have s13:=s12.trans s3;have sH2:vC H H2:=s13;refine⟨_,dx,_,s13 _ _ h1,T.Ai,T.Ar,_,eJ,a,rfl,_,aD.of (s13 _ _ h2),λq1 hq1=>?_⟩;rw[Xa];have s4:=dD (o:=.lst (vs.take (pb rs (x - 1)))) LC hq1;have hq1':yC H2 q1 (.lst (vs.take (pb rs (x - 1)))) q1=some (.lst (vs.take (pb rs (x - 1)))):=SC;have hA4:=s4 _ _ (s3 _ _ hA);have hB4:=s4 _ _ hB;have hb4:=s4 _ _ (s13 _ _ hb);have s14:=s13.trans s4;generalize yC H2 q1 (.lst (vs.take (pb rs (x - 1))))=H4 at *;have ly:ys.length<=100000:=by
   have h4:=Paired.length hys;rw[dA] at h4;have:=BB (λr:Rn=>decide (r.f < x)) near;omega
  have lz:zs.length<=100000:=by
   have h4:=Paired.length hzs;rw[dA] at h4;have:=BB (λr:Rn=>decide (IC r > x+n)) near;omega
  have lw:ws.length<=100000:=by rw[Paired.length hP];exact hpl
  refine⟨_,hA4,_,hb4,⋯,λq2 hq2=>?_⟩;have s5:=dD (o:=.lst (ys++ws)) LC hq2;have hq2':yC H4 q2 (.lst (ys++ws)) q2=some (.lst (ys++ws)):=SC;have hB5:=s5 _ _ hB4;have hq15:=s5 _ _ hq1';have s15:=s14.trans s5;generalize yC H4 q2 (.lst (ys++ws))=H5 at *;refine⟨_,rfl,_,hB5,by rw[qA];omega,λq3 hq3=>?_⟩;have s6:=dD (o:=.lst (ys++ws++zs)) LC hq3;have hq3':yC H5 q3 (.lst (ys++ws++zs)) q3=some (.lst (ys++ws++zs)):=SC;have hq16:=s6 _ _ hq15;have s16:=s15.trans s6;have s26:vC H2 (yC H5 q3 (.lst (ys++ws++zs))):=s4.trans (s5.trans s6);generalize yC H5 q3 (.lst (ys++ws++zs))=H6 at *;have hall:xC H6 (ys++ws++zs) ((near.filter λr=>decide (r.f < x)).map (λr=>rE r r.f x)++parts++(near.filter λr=>decide (IC r > x+n)).map (λr=>rE r (x+n) (IC r))):=
   EG (EG (xC.same hys (s3.trans s26)) (xC.same hP s16)) (xC.same hzs s26)
  have hallL:((near.filter λr=>decide (r.f < x)).map (λr=>rE r r.f x)++parts++(near.filter λr=>decide (IC r > x+n)).map (λr=>rE r (x+n) (IC r))).length<=1000000:=by
   rw[<-Paired.length hall,qA,qA];omega
  refine⟨_,aD.of hq3',_,hall,hallL,λt us H7 s7 ht0 ht hU=>?_⟩;have s17:=s16.trans s7;have hus:us.length<=1000000:=by
   rw[Paired.length hU];have:=IS ((near.filter λr=>decide (r.f < x)).map (λr=>rE r r.f x)++parts++(near.filter λr=>decide (IC r > x+n)).map (λr=>rE r (x+n) (IC r))) [];unfold jn;simp only[List.length_nil,NB] at this;omega
  have lv:vs.length<=100000:=by rw[Paired.length h3];exact hlen
  refine⟨_,s7 _ _ hq16,_,ht,by rw[NA];omega,λq4 hq4=>?_⟩;have s8:=dD (o:=.lst (vs.take (pb rs (x - 1))++us)) LC hq4;have hq4':yC H7 q4 (.lst (vs.take (pb rs (x - 1))++us)) q4=some (.lst (vs.take (pb rs (x - 1))++us)):=SC;have s18:=s17.trans s8;generalize yC H7 q4 (.lst (vs.take (pb rs (x - 1))++us))=H8 at *;refine⟨_,dx,_,s18 _ _ h1,T.Ai,T.Ar,_,eJ,a,rfl,_,aD.of (s18 _ _ h2),λq5 hq5=>?_⟩;have ecf:DE vs (some (((pb rs (x+n):Nat):Int)+1)) none=vs.drop (pb rs (x+n)+1):=Tl (lo:=pb rs (x+n)+1);rw[ecf];have s9:=dD (o:=.lst (vs.drop (pb rs (x+n)+1))) LC hq5;have hq5':yC H8 q5 (.lst (vs.drop (pb rs (x+n)+1))) q5=some (.lst (vs.drop (pb rs (x+n)+1))):=SC;have hq49:=s9 _ _ hq4';have s19:=s18.trans s9;have s79:=s8.trans s9;generalize yC H8 q5 (.lst (vs.drop (pb rs (x+n)+1)))=H9 at *;refine⟨_,hq49,_,rfl,by rw[qA,NA,GB];omega,λq6 hq6=>?_⟩;have s10:=dD (o:=.lst (vs.take (pb rs (x - 1))++us++vs.drop (pb rs (x+n)+1))) LC hq6;have hq6':yC H9 q6 (.lst (vs.take (pb rs (x - 1))++us++vs.drop (pb rs (x+n)+1))) q6=some (.lst (vs.take (pb rs (x - 1))++us++vs.drop (pb rs (x+n)+1))):=SC;have s110:=s19.trans s10;have s710:=s79.trans s10;generalize yC H9 q6 (.lst (vs.take (pb rs (x - 1))++us++vs.drop (pb rs (x+n)+1)))=H10 at *;have hpq:q6≠p:=OE hq6' (s110 _ _ h1) λz=>nomatch z;refine⟨_,dx,_,s110 _ _ h1,T.Ai,T.Ar,by show 1 < 1000;decide,?_⟩;have hrun:∀{v:V} {r:Rn} {o:HO},bD H10 v r->bD (yC H10 p o) v r:=λ{v r o} h=>by
   obtain⟨c,cv,e,hc,hcv⟩:=h;refine⟨c,cv,e,by rw[WC (OE hc (s110 _ _ h1) λz=>nomatch z)];exact hc,?_⟩;cases ht:r.t with
   |none=>rw[ht] at hcv;exact hcv
   |some tt=>
    obtain⟨b2,k2⟩:=tt;rw[ht] at hcv;obtain⟨c2,e2,h2⟩:=hcv;exact⟨c2,e2,by rw[WC (OE h2 (s110 _ _ h1) λz=>nomatch z)];exact h2⟩
  refine q' q6 _ ⟨dx,_,SC,by rw[WC hpq];exact hq6',?_⟩ λc o hc hne=>by rw[WC hne];exact s110 _ _ hc
  have hfin:xC H10 (vs.take (pb rs (x - 1))++us++vs.drop (pb rs (x+n)+1)) (rs.take (pb rs (x - 1))++jn ((near.filter λr=>decide (r.f < x)).map (λr=>rE r r.f x)++parts++(near.filter λr=>decide (IC r > x+n)).map (λr=>rE r (x+n) (IC r)))++rs.drop (pb rs (x+n)+1)):=
   EG (EG (xC.same (FS _ h3) s110) (xC.same hU s710)) (xC.same (GS _ h3) s110)
  exact Paired.mapP hfin λο ο h=>hrun h
noncomputable def MS (C BR TK:Addr):Sp:=λvs H Q E=>∃(p a:Addr) (rs:List Rn) (x n r:Int) (tv:V) (t:Option (Int×Int)),vs=[.ref p,.int x,.int n,.int r,tv]/\UD C H p a rs/\HC rs/\rs.length<=100000/\vD H tv t/\
 if 0<=r/\r<=3 then (if aE rs x n=[] then ∀a' H',UD C H' p a' (ZD rs x n [⟨x,n,r,t⟩])->Bu p H H'->Q .non H' else ∀H',vC H H'->E (.ref TK) none H') else E (.ref BR) none H
theorem Vl (T:AD K mg A):EF P w K mg base "Stretches.put" ZI ["self","first","many","rights","tie"] 5 (MS A.Aa A.Ab A.Ak):=by
 have Be:=@JL P w K mg base A T;have Fp:=@GL P w K mg base A T;have Az:=@rW P w K mg base A T
 ·intro f cdv A' outer s H vs Q E hr z;obtain⟨p,a,rs,x,n,r,tv,t,rfl,hS,ho,hlen,hT,q⟩:=z;obtain⟨dx,vs,h1,h2,h3⟩:=id hS;refine⟨_,(NC (uE (lD Be (hr.mono (by decide)) KC (pC (nC 3) uC)))
   (NC (eD (ZF (xE (TD (nC 0) T.Ai Fp (hr.mono (by decide)) KC (pC (nC 1) (pC (nC 2) uC))))) (EC (BH AH rfl T.Q7 (pC wD uC))) fD)
   (EC (uE (TD (nC 0) T.Ai Az (hr.mono (by decide)) KC (pC (nC 1) (pC (nC 2) (pC (zH (pC (YD (pC (nC 1) (pC (nC 2) (pC (nC 3) (pC (nC 4) uC))))) uC)) uC)))))))),?_⟩
  unfold KS Za LS;rfl';simp only[h1];rfl';by_cases c:0<=r/\r<=3
  ·rw[bA c] at q;rw[bA (by rw[CH,kA c.1,kA c.2];rfl)];refine⟨tF ∅,a,rs,hS,ho,⋯,λH1 s1=>?_⟩;by_cases c2:aE rs x n=[]
   ·rw[bA c2] at q;rw[kA c2];refine CC ⟨dx,_,s1 _ _ h1,tF ∅,λtp htp lp hlp=>?_⟩;have s2:=dD (o:=.tup [V.int x,V.int n,V.int r,tv]) s1 htp;have s3:=dD (o:=.lst [V.ref tp]) s2 hlp;have s23:=dD (o:=.lst [V.ref tp]) LC hlp;exact⟨a,rs,hS.same s3,ho,hlen,[⟨x,n,r,t⟩],[.ref tp],rfl,.cons ⟨tp,tv,rfl,s23 _ _ SC,hT.same s3⟩ .nil,by show 1<=100000;decide,λa' H' hS' hB=>q a' H' hS' λc o hc hne=>hB c o (s3 c o hc) hne⟩
   ·rw[aA c2] at q;rw[yA c2];exact qD (q _ s1)
  ·rw[aA c] at q;rw[aA (by rw[CH];simpa using c)];exact q
theorem Wl {C BR TK:Addr}:∀vs H Q E,MS C BR TK vs H Q E->vs.length=5:=λvs H Q E z=>by
 obtain⟨p,a,rs,x,n,r,tv,t,rfl,_⟩:=z;rfl
theorem Xl (T:AD K mg A):TC P w K mg base A.Aa "put" 6 ["self","first","many","rights","tie"] [] (MS A.Aa A.Ab A.Ak):=T.Jf.have zj Wl (Vl T)
noncomputable def sW (C NM:Addr):Sp:=λvs H Q E=>∃(p a:Addr) (rs:List Rn) (x n:Int),vs=[.ref p,.int x,.int n]/\UD C H p a rs/\HC rs/\rs.length<=1000000/\∀H',vC H H'->if ((aE rs x n).map (·.m)).sum=n then Q .non H' else E (.ref NM) none H'
theorem cP (T:AD K mg A):TC P w K mg base A.Aa "check_full" 6 ["self","first","many"] [] (sW A.Aa A.Ac):=by
 have Fq:=@HL P w K mg base A T;refine T.C1.have Uj (λvs H Q E z=>?_) ?_
 ·obtain⟨p,a,rs,x,n,rfl,_⟩:=z;rfl
 ·intro f cdv A' outer s H vs Q E hr z;obtain⟨p,a,rs,x,n,rfl,hS,ho,hlen,q⟩:=z;obtain⟨dx,vs,h1,h2,h3⟩:=id hS;refine⟨_,(EC (eD (ZF (xE (TD (nC 0) T.Ai Fq (hr.mono (by decide)) KC (pC (nC 1) (pC (nC 2) uC))))) (EC (BH AH rfl T.Nw (pC wD uC))) fD)),?_⟩;unfold bb;rfl';refine⟨dx,_,h1,tF ∅,a,rs,hS,ho,hlen,λH1 s1=>?_⟩;have q1:=q _ s1;by_cases c:((aE rs x n).map (·.m)).sum=n
  ·rw[bA c] at q1;rw[kA c];exact CC q1
  ·rw[aA c] at q1;rw[yA c];exact qD q1
noncomputable def rb (C NM:Addr):Sp:=λvs H Q E=>∃(p a:Addr) (rs:List Rn) (x n:Int),vs=[.ref p,.int x,.int n]/\UD C H p a rs/\HC rs/\rs.length<=100000/\
 if ((aE rs x n).map (·.m)).sum=n then ∀a' H',UD C H' p a' (ZD rs x n [])->Bu p H H'->Q .non H' else ∀H',vC H H'->E (.ref NM) none H'
theorem dP (T:AD K mg A):TC P w K mg base A.Aa "cut" 7 ["self","first","many"] [] (rb A.Aa A.Ac):=by
 have Bc:=@cP P w K mg base A T;have Az:=@rW P w K mg base A T;refine T.Jg.have Tj (λvs H Q E z=>?_) ?_
 ·obtain⟨p,a,rs,x,n,rfl,_⟩:=z;rfl
 ·intro f cdv A' outer s H vs Q E hr z;obtain⟨p,a,rs,x,n,rfl,hS,ho,hlen,q⟩:=z;obtain⟨dx,vs,h1,h2,h3⟩:=id hS;refine⟨_,(NC (uE (TD (nC 0) T.Ai Bc (hr.mono (by decide)) KC (pC (nC 1) (pC (nC 2) uC))))
   (EC (uE (TD (nC 0) T.Ai Az (hr.mono (by decide)) KC (pC (nC 1) (pC (nC 2) (pC (zH uC) uC))))))),?_⟩
  unfold sW LS;rfl';refine⟨dx,_,h1,tF ∅,a,rs,hS,ho,⋯,λH1 s1=>?_⟩;by_cases c:((aE rs x n).map (·.m)).sum=n
  ·rw[bA c] at q;rw[bA c];refine⟨dx,_,s1 _ _ h1,tF ∅,λlp hlp=>?_⟩;have s2:=dD (o:=.lst []) s1 hlp;exact⟨a,rs,hS.same s2,ho,hlen,[],[],rfl,.nil,by decide,λa' H' hS' hB=>q a' H' hS' λc o hc hne=>hB c o (s2 c o hc) hne⟩
  ·rw[aA c] at q;rw[aA c];exact q _ s1
noncomputable def BI (r:Int) (y:Rn):Rn:=⟨y.f,y.m,r,y.t⟩
noncomputable def wb (C BR NM:Addr):Sp:=λvs H Q E=>∃(p a:Addr) (rs:List Rn) (x n r:Int),vs=[.ref p,.int x,.int n,.int r]/\UD C H p a rs/\HC rs/\rs.length<=100000/\
 if 0<=r/\r<=3 then (if ((aE rs x n).map (·.m)).sum=n then ∀a' H',UD C H' p a' (ZD rs x n ((aE rs x n).map (BI r)))->Bu p H H'->Q .non H' else ∀H',vC H H'->E (.ref NM) none H') else E (.ref BR) none H
theorem Yl {rs:List Rn} {x n:Int}:(aE rs x n).length<=rs.length:=by
 unfold aE sE;rw[dA];refine YA (BB _ _) ?_;rw[GB,NA];omega
theorem Zl (T:AD K mg A):TC P w K mg base A.Aa "guard" 7 ["self","first","many","rights"] [] (wb A.Aa A.Ab A.Ac):=by
 have Be:=@JL P w K mg base A T;have Bc:=@cP P w K mg base A T;have At:=@JS P w K mg base A T;have Az:=@rW P w K mg base A T;refine T.Gs.have Z8 (λvs H Q E z=>?_) ?_
 ·obtain⟨p,a,rs,x,n,r,rfl,_⟩:=z;rfl
 ·intro f cdv A' outer s H vs Q E hr z;obtain⟨p,a,rs,x,n,r,rfl,hS,ho,hlen,q⟩:=z;obtain⟨dx,vs,h1,h2,h3⟩:=id hS;refine⟨_,(NC (uE (lD Be (hr.mono (by decide)) KC (pC (nC 3) uC)))
   (NC (uE (TD (nC 0) T.Ai Bc (hr.mono (by decide)) KC (pC (nC 1) (pC (nC 2) uC))))
   (NC (NR (i:=4) Z8.nd rfl rfl rfl (AG (TD (nC 0) T.Ai At (hr.mono (by decide)) KC (pC (nC 1) (pC (nC 2) uC)))) (x:="part") (fs:=["rights"]) (ix:=[3]) rfl rfl (λο ο ο ο ο ο=>(pF (i:=0) (show (["part","rights"]:List Str).Nodup by decide+kernel) rfl (Or.inl rfl))) (λο ο ο ο ο ο=>lO) (λο ο ο ο ο ο=>(YD (pC (MC (xI (K:=K) rfl) (nC 0) sC (λο ο=>rfl)) (pC (MC (xI (K:=K) rfl) (nC 0) sC (λο ο=>rfl)) (pC (nC 1) (pC (MC (xI (K:=K) rfl) (nC 0) sC (λο ο=>rfl)) uC)))))))
   (EC (uE (TD (nC 0) T.Ai Az (hr.mono (by decide)) KC (pC (nC 1) (pC (nC 2) (pC (nC 4) uC))))))))),?_⟩
  unfold KS sW ZO LS;rfl';by_cases c:0<=r/\r<=3
  ·rw[bA c] at q;rw[bA (by rw[CH,kA c.1,kA c.2];rfl)];refine⟨dx,_,h1,tF ∅,a,rs,hS,ho,⋯,λH1 s1=>?_⟩;by_cases c2:((aE rs x n).map (·.m)).sum=n
   ·rw[bA c2] at q;rw[bA c2];refine⟨dx,_,s1 _ _ h1,tF ∅,a,rs,hS.same s1,ho,⋯,λt us H2 s2 ht0 ht hU=>?_⟩;have hul:us.length<=100000:=by
     rw[Paired.length hU];exact YA Yl hlen
    generalize hpm:aE rs x n=pt at *;have hptl:us.length=pt.length:=Paired.length hU;refine⟨⟨_,aD.of ht⟩,λD hD=>?_⟩;refine bL (xs:=us) (λi ys σ H'=>∃v,σ=[v,some (.int r)]/\vC H2 H'/\H' D=some (.lst ys)/\xC H' ys ((pt.take i).map (BI r))) ⟨_,rfl,dD LC hD,SC,.nil⟩ (λi ys σ H' _ ⟨_,_,s3,_⟩=>aD.of (s3 _ _ ht)) (λi v ys σ H3 hi=>?_) (λys σ H3=>?_)
    ·rintro⟨v0,rfl,s3,hDD,hys⟩;obtain⟨y,hy1,hy2⟩:=AI hU hi;have hyx:=hy2.same s3;have htk:pt.take (i+1)=pt.take i++[y]:=by rw[xB,hy1];rfl
     have hyl:ys.length<=100000:=by
      have h4:=Paired.length hys;rw[dA,NA] at h4;omega
     rw[htk,KA];obtain⟨c,cv,rfl,hc,hcv⟩:=id hyx;rfl';refine⟨_,OC.of hc,_,rfl,_,OC.of hc,_,rfl,_,OC.of hc,_,rfl,λtp htp=>?_⟩;have s4:=dD (o:=.tup [.int y.f,.int y.m,.int r,cv]) LC htp;have hD2:=s4 _ _ hDD;refine⟨hD2,⋯,pG (s3.trans s4) hD,?_⟩;refine EG (xC.same2 (xC.same hys s4) hD2 LC) (.cons (bD.same2 ⟨tp,cv,rfl,SC,hcv.same s4⟩ hD2 LC) .nil)
    ·rintro⟨v0,rfl,s3,hDD,hys⟩;rw[hptl,vB] at hys;have s13:=s1.trans (s2.trans s3);refine⟨dx,_,s13 _ _ h1,tF ∅,a,rs,hS.same s13,ho,hlen,_,ys,hDD,hys,by rw[dA];omega,λa' H4 hS4 hB4=>q _ _ hS4 λc o hc hcp=>hB4 c o (s13 _ _ hc) hcp⟩
   ·rw[aA c2] at q;rw[aA c2];exact q _ s1
  ·rw[aA c] at q;rw[aA (by rw[CH];simpa using c)];exact q
theorem KL {C:Addr} {H:Hp} {x dx a:Addr} (h1:H x=none) (h2:H dx=none) (h4:yC (yC H dx (.own x)) x (.ins C dx []) a=none):
  UD C (yC (yC (yC (yC H dx (.own x)) x (.ins C dx [])) a (.lst [])) x (.ins C dx (SG a))) x a []/\vC H (yC (yC (yC (yC H dx (.own x)) x (.ins C dx [])) a (.lst [])) x (.ins C dx (SG a))):=by
 have hax:a≠x:=λe=>by subst e;rw[SC] at h4;cases h4
 refine⟨⟨dx,[],SC,by rw[WC hax,SC],.nil⟩,λb o hb=>?_⟩;have hbx:b≠x:=AE hb h1;have hbd:b≠dx:=AE hb h2;have hba:b≠a:=λe=>by subst e;rw[WC hbx,WC hbd,hb] at h4;cases h4
 rw[WC hbx,WC hba,WC hbx,WC hbd];exact hb
noncomputable def xb (C:Addr):Sp:=λvs H Q ο=>∃(p a:Addr) (rs:List Rn),vs=[.ref p]/\UD C H p a rs/\∀p' a' H',vC H H'->H p'=none->UD C H' p' a' rs->Q (.ref p') H'
theorem am (T:AD K mg A):TC P w K mg base A.Aa "copied" 3 ["self"] [] (xb A.Aa):=by
 have Bq:=@kb P w K mg base A T;refine T.Fs.have i9 (λvs H Q E z=>?_) ?_
 ·obtain⟨p,a,rs,rfl,_⟩:=z;rfl
 ·intro f cdv A' outer s H vs Q E hr z;obtain⟨p,a,rs,rfl,hS,q⟩:=z;obtain⟨dx,vs,h1,h2,h3⟩:=id hS;refine⟨_,(NC (sD (i:=1) i9.nd rfl (Or.inl rfl) (Y5 Bq (hr.mono (by decide)) KC))
   (NC (yH (nC 1) (MT X4 rfl T.Je PyProof.Rows.boot_list (pC (HE (nC 0) rfl) uC)) rfl)
   (EC (YC (nC 1))))),?_⟩
  unfold qW;rfl';intro x' dx' hx' hdx' hne' a' ha';obtain⟨hS1,sm1⟩:=KL hx' hdx' ha';generalize yC (yC (yC (yC H dx' (.own x')) x' (.ins A.Aa dx' [])) a' (.lst [])) x' (.ins A.Aa dx' (SG a'))=H1 at *;refine⟨_,dx,_,sm1 _ _ h1,T.Ai,T.Ar,_,eJ,a,rfl,_,.inl (aD.of (sm1 _ _ h2)),λl hl=>?_⟩;obtain⟨dy,vy,hy,_⟩:=id hS1;have b1:=dD (o:=.lst vs) (LC (H:=H1)) hl;refine⟨_,dy,_,b1 _ _ hy,T.Ai,T.Ar,by show 1 < 1000;decide,?_⟩;have hlx:l≠x':=λe=>by rw[e,hy] at hl;cases hl
  have ep:RD "runs" (.ref l) (SG a')=SG l:=rfl;refine q _ l _ ?_ hx' ?_
  ·exact pG (sm1.trans b1) hx'
  ·rw[ep];exact⟨dy,vs,SC,by rw[WC hlx,SC],xC.same h3 (pG (sm1.trans b1) hx')⟩
noncomputable abbrev Kvs:=List (Key×V)
noncomputable def cD (kvs:Kvs):List Key:=kvs.map (·.1)
noncomputable def DH (ks:List Key) (k:Nat):Prop:=(Sum.inl (k:Int):Key)∉ks/\∀j:Nat,j < k->(Sum.inl (j:Int):Key)∈ks
theorem DH.one {ks:List Key} {a b:Nat} (h:DH ks a) (g:DH ks b):a=b:=by
 rcases Nat.lt_trichotomy a b with q|q|q
 ·exact absurd (g.2 a q) h.1
 ·exact q
 ·exact absurd (h.2 b q) g.1
theorem yb:∀(i:Nat) (ks:List Int),(∀j:Nat,j < i->(j:Int)∈ks)->i<=ks.length
 |0,_,_=>bC _
 |i+1,ks,h=>by
  have hm:=h i (Nat.lt_succ_self i);have:=yb i (ks.erase (i:Int)) λj hj=>(List.mem_erase_of_ne ⋯).mpr (h j ⋯);rw[List.length_erase_of_mem hm] at this;have:=List.length_pos_of_mem hm;omega
noncomputable def kI:Key->Int
 |.inl i=>i
 |.inr _=>0
theorem tW (i:Nat) (ks:List Key) (h:∀j:Nat,j < i->(Sum.inl (j:Int):Key)∈ks):i<=ks.length:=by
 have:=yb i (ks.map kI) λj hj=>xA.mpr ⟨_,h j hj,rfl⟩;rwa[dA] at this
theorem NS {kvs:Kvs} {k:Key} (h:k∈cD kvs):(JC kvs k).isSome=true:=by
 cases e:JC kvs k with
 |none=>exact absurd h (LM e)
 |some v=>rfl
theorem OS {kvs:Kvs} {k:Key} (h:k∉cD kvs):(JC kvs k).isSome=false:=by
 cases e:JC kvs k with
 |none=>rfl
 |some v=>exact absurd (uJ e) h
theorem eP {kvs:Kvs} {k:Key} (h:k∈cD kvs):∃v,JC kvs k=some v:=by
 cases e:JC kvs k with
 |none=>exact absurd h (LM e)
 |some v=>exact⟨v,rfl⟩
theorem cm {kvs:Kvs} {k:Key} (h:k∉cD kvs):JC kvs k=none:=by
 cases e:JC kvs k with
 |none=>rfl
 |some v=>exact absurd (uJ e) h
theorem bN {kvs:Kvs} {k:Key} {v:V} (h:JC kvs k=some v):(k,v)∈kvs:=by
 unfold JC at h;cases e:kvs.find? λkv=>decide (kv.1=k) with
 |none=>rw[e] at h;cases h
 |some p=>
  rw[e] at h;cases h;have h1:=List.find?_some e;have h2:=List.mem_of_find?_eq_some e;have h3:p.1=k:=by simpa using h1
  rw[<-h3];exact h2
theorem cN {kvs:Kvs} {k:Key} {v:V} (h:k∉cD kvs):ED kvs k v=kvs++[(k,v)]:=UT v (cm h)
theorem dm (kvs:Kvs) (k:Key):cD (nD kvs k)=(cD kvs).filter λx=>decide (x≠k):=by
 unfold cD nD;rw[List.filter_map];rfl
noncomputable def eF (ks:List Key):Prop:=∀k∈ks,∃i:Int,k=Sum.inl i
theorem eF.ns:∀{ks:List Key},eF ks->ks=(ks.map kI).map Sum.inl
 |[],_=>rfl
 |k::ks,h=>by
  obtain⟨i,rfl⟩:=h k cA;rw[QA,QA,<-eF.ns (ks:=ks) λx hx=>h x (fA _ hx)]
  rfl
theorem eF.app {ks:List Key} {i:Int} (h:eF ks):eF (ks++[Sum.inl i]):=λk hk=>by
 rcases rA.mp hk with q|q
 ·exact h k q
 ·exact⟨i,gA.mp q⟩
theorem eF.drop {ks:List Key} {k:Key} (h:eF ks):eF (ks.filter λx=>decide (x≠k)):=λx hx=>h x (zB.mp hx).1
noncomputable def Kd (d:Addr) (H H':Hp):Prop:=∀c o,H c=some o->c≠d->H' c=some o
theorem Kd.trans {d:Addr} {H H1 H2:Hp} (a:Kd d H H1) (b:Kd d H1 H2):Kd d H H2:=λc o h hn=>b c o (a c o h hn) hn
theorem Kd.of {d:Addr} {H H':Hp} (s:vC H H'):Kd d H H':=λc o h ο=>s c o h
theorem cG {d:Addr} {H:Hp} {o:HO}:Kd d H (yC H d o):=λc u h hn=>by rw[WC hn];exact h
noncomputable def sp_least_free:Sp:=λvs H Q ο=>∃(a:Addr) (kvs:Kvs),vs=[.ref a]/\H a=some (.dK kvs)/\∀k:Nat,DH (cD kvs) k->Q (.int k) H
theorem uW (T:AD K mg A):KD P w K mg base "least_free" 1 ["numbers"] [] sp_least_free:=by
 refine T.Lf.have cV (λvs H Q E z=>?_) ?_
 ·obtain⟨a,kvs,rfl,_⟩:=z;rfl
 ·intro f cdv A' outer s H vs Q E hr z;obtain⟨a,kvs,rfl,ha,q⟩:=z;refine⟨_,(NC (sD (i:=1) cV.nd rfl (Or.inl rfl) sC)
   (NC (iU WA (nI (VN (vE hr) (nC 1) (nC 0))) (EC (sD (i:=1) cV.nd rfl (Or.inl rfl) (ZC YE (nC 1) sC))))
   (EC (YC (nC 1))))),?_⟩
  unfold jH;rfl';refine jU (λm σ H'=>∃i:Nat,σ=[some (.ref a),some (.int i)]/\H'=H/\m+i=kvs.length+1/\∀j:Nat,j < i->(Sum.inl (j:Int):Key)∈cD kvs) (kvs.length+1) ⟨0,rfl,rfl,rfl,λj h=>absurd h (Nat.not_lt_zero _)⟩ (λm σ H'=>?_);rintro⟨i,rfl,rfl,hm,hj⟩;rfl';refine⟨_,.inl ⟨kvs,Sum.inl (i:Int),.inl ha,rfl,rfl⟩,?_⟩;by_cases c:(Sum.inl (i:Int):Key)∈cD kvs
  ·rw[NS c];have hj':∀j:Nat,j < i+1->(Sum.inl (j:Int):Key)∈cD kvs:=λj h=>by
    rcases Nat.lt_succ_iff_lt_or_eq.mp h with q|rfl
    ·exact hj j q
    ·exact c
   have hle:=tW (i+1) (cD kvs) hj';have hlk:(cD kvs).length=kvs.length:=by unfold cD;rw[dA]
   refine qD (VH ?_);rfl';exact⟨m - 1,⋯,i+1,rfl,⋯,hj'⟩
  ·rw[OS c];refine CC ?_;exact q i ⟨c,hj⟩
noncomputable def LL (sh td bd:Addr):List (Str×V):=RD "banks" (.ref bd) (RD "tasks" (.ref td) (RD "shape" (.ref sh) []))
theorem UG {sh td bd:Addr}:(LL sh td bd).lookup ("tasks":Str)=some (.ref td):=by rfl
theorem ML {sh td bd:Addr}:(LL sh td bd).lookup ("banks":Str)=some (.ref bd):=by rfl
theorem wF {sh td bd:Addr} {m:Str} (h:¬m∈(["shape","tasks","banks"]:List Str)):(LL sh td bd).lookup m=none:=by
 simp only[wA,AB,or_false,not_or] at h;unfold LL;simp only[IN,h.1,h.2.1,h.2.2,wB]
 rfl
set_option genInjectivity false in
structure Hz where
 p:Addr
 sh:Addr
 td:Addr
 bd:Addr
noncomputable def zb (C:Addr):Sp:=λvs H Q ο=>∃(p dx sh:Addr),vs=[.ref p,.ref sh]/\H p=some (.ins C dx [])/\∀td bd H',H td=none->H bd=none->td≠bd->Kd p H H'->H' p=some (.ins C dx (LL sh td bd))->H' td=some (.dK [])->H' bd=some (.dK [])->Q .non H'
theorem fm (T:AD K mg A):DF P w K mg base "House" A.Af 1 ["self","shape"] [] (zb A.Af):=by
 refine T.Li.have Zj (λvs H Q E z=>?_) ?_
 ·obtain⟨p,dx,sh,rfl,_⟩:=z;rfl
 ·intro f cdv A' outer s H vs Q E hr z;obtain⟨p,dx,sh,rfl,hp,q⟩:=z;refine⟨_,(NC (yH (nC 0) (nC 1) rfl)
   (NC (yH (nC 0) KM rfl)
   (EC (yH (nC 0) KM rfl)))),?_⟩
  rfl';simp only[hp];rfl';refine⟨T.Ah,T.Bs,λtd htd=>?_⟩;have ntp:td≠p:=λz=>by rw[z,SC] at htd;cases htd
  have htd0:H td=none:=by rw[WC ntp] at htd;exact htd
  refine⟨_,dx,_,by rw[WC ntp.symm,SC],T.Ah,T.Aq,by show 1 < 1000;decide,λbd hbd=>?_⟩;have nbp:bd≠p:=λz=>by rw[z,SC] at hbd;cases hbd
  rw[WC nbp] at hbd;have nbt:bd≠td:=λz=>by rw[z,SC] at hbd;cases hbd
  rw[WC nbt,WC nbp] at hbd;refine⟨_,dx,_,by rw[WC nbp.symm,SC],T.Ah,T.Ax,by show 2 < 1000;decide,?_⟩;refine q td bd _ htd0 hbd nbt.symm (λc o h hn=>?_) SC (by rw[WC ntp,WC nbt.symm,WC ntp,SC]) (by rw[WC nbp,SC]);rw[WC hn,WC (AE h hbd),WC hn,WC (AE h htd0),WC hn];exact h
theorem Tb {sh td bd:Addr}:(LL sh td bd).lookup ("shape":Str)=some (.ref sh):=by rfl
set_option genInjectivity false in
structure Tk where
 n:Int
 p:Addr
 rs:List Rn
noncomputable def yD (tks:List Tk):Kvs:=tks.map λt=>((Sum.inl t.n:Key),V.ref t.p)
noncomputable def uF (S:Addr) (H:Hp) (t:Tk):Prop:=∃a,UD S H t.p a t.rs/\HC t.rs/\t.rs.length<=10000
structure xD (A:QD) (H:Hp) (z:Hz) (l f g:Int) (tks:List Tk) (bk:Kvs):Prop where
 me:∃dx,H z.p=some (.ins A.Af dx (LL z.sh z.td z.bd))
 sh:GE A.Ap H z.sh l f g
 t:H z.td=some (.dK (yD tks))
 b:H z.bd=some (.dK bk)
 st:∀t∈tks,uF A.Aa H t
 nd:(tks.map Tk.p).Nodup
 nk:(tks.map Tk.n).Nodup
 vb:∀kv∈bk,∃i:Int,kv.2=.int i
 ne:z.td≠z.bd
 np:∀t∈tks,t.p≠z.p/\t.p≠z.sh
theorem uF.same {S:Addr} {H H':Hp} {t:Tk} (h:uF S H t) (s:vC H H'):uF S H' t:=let ⟨a,h1,h2⟩:=h;⟨a,h1.same s,h2⟩
theorem xD.same {A:QD} {H H':Hp} {z:Hz} {l f g:Int} {tks:List Tk} {bk:Kvs} (h:xD A H z l f g tks bk) (s:vC H H'):xD A H' z l f g tks bk:=
 ⟨let ⟨dx,e⟩:=h.me;⟨dx,s _ _ e⟩,h.sh.same s,s _ _ h.t,s _ _ h.b,λt ht=>(h.st t ht).same s,h.nd,h.nk,h.vb,h.ne,h.np⟩
theorem vD.kd {H H':Hp} {d:Addr} {v:V} {o:HO} (hd:H d=some o) (ho:∀xs,o≠.tup xs) (k:Kd d H H'):∀{t:Option (Int×Int)},vD H v t->vD H' v t
 |none,h=>h
 |some (b,i),⟨a,e,h⟩=>⟨a,e,k _ _ h (OE h hd (λz=>ho _ z.symm))⟩
theorem xC.kd {H H':Hp} {d:Addr} {o:HO} (hd:H d=some o) (ho:∀xs,o≠.tup xs) (k:Kd d H H') {vs:List V} {rs:List Rn} (h:xC H vs rs):xC H' vs rs:=
 Paired.mapP h λ_ _ ⟨a,tv,e,h1,h2⟩=>⟨a,tv,e,k _ _ h1 (OE h1 hd (λz=>ho _ z.symm)),h2.kd hd ho k⟩
theorem uF.kd {S d:Addr} {H H':Hp} {t:Tk} {kvs:Kvs} (h:uF S H t) (hd:H d=some (.dK kvs)) (k:Kd d H H'):uF S H' t:=
 let ⟨a,⟨dx,vs,h1,h2,h3⟩,h4⟩:=h
 ⟨a,⟨dx,vs,k _ _ h1 (OE h1 hd (λz=>nomatch z)),k _ _ h2 (OE h2 hd (λz=>nomatch z)),h3.kd hd (λο z=>nomatch z) k⟩,h4⟩
theorem uF.bu {S p:Addr} {H H':Hp} {t:Tk} {dx:Addr} {fs:List (Str×V)} (h:uF S H t) (hp:H p=some (.ins S dx fs)) (hn:t.p≠p) (k:Bu p H H'):uF S H' t:=
 let ⟨a,⟨dx1,vs,h1,h2,h3⟩,h4⟩:=h
 ⟨a,⟨dx1,vs,k _ _ h1 hn,k _ _ h2 (OE h2 hp (λz=>nomatch z)),h3.kd hp (λο z=>nomatch z) k⟩,h4⟩
noncomputable def mF (n:Int) (rs:List Rn) (tks:List Tk):List Tk:=tks.map λt=>if t.n=n then {t with rs:=rs} else t
theorem NL {n:Int} {rs:List Rn} {tks:List Tk}:yD (mF n rs tks)=yD tks:=by
 unfold yD mF;rw[HB];refine List.map_congr_left λt ο=>?_;show ((Sum.inl (if t.n=n then {t with rs:=rs} else t).n:Key),V.ref (if t.n=n then {t with rs:=rs} else t).p)=_;by_cases h:t.n=n
 ·rw[bA h]
 ·rw[aA h]
theorem Ub {n:Int} {rs:List Rn} {tks:List Tk}:(mF n rs tks).map Tk.p=tks.map Tk.p:=by
 unfold mF;rw[HB];refine List.map_congr_left λt ο=>?_;show (if t.n=n then {t with rs:=rs} else t).p=t.p;by_cases h:t.n=n
 ·rw[bA h]
 ·rw[aA h]
theorem OL {n:Int} {rs:List Rn} {tks:List Tk}:(mF n rs tks).map Tk.n=tks.map Tk.n:=by
 unfold mF;rw[HB];refine List.map_congr_left λt ο=>?_;show (if t.n=n then {t with rs:=rs} else t).n=t.n;by_cases h:t.n=n
 ·rw[bA h]
 ·rw[aA h]
theorem EH {α β:Type} {f:α->β}:∀{xs:List α} {a b:α},(xs.map f).Nodup->a∈xs->b∈xs->f a=f b->a=b
 |[],_,_,_,h,_,_=>by simp at h
 |x::xs,a,b,nd,ha,hb,e=>by
  rw[QA,qB] at nd;rcases wA.mp ha with e1|h1<;>rcases wA.mp hb with e2|h2
  ·rw[e1,e2]
  ·exact absurd (xA.mpr ⟨b,h2,by rw[<-e,e1]⟩) nd.1
  ·exact absurd (xA.mpr ⟨a,h1,by rw[e,e2]⟩) nd.1
  ·exact EH nd.2 h1 h2 e
theorem xD.set {A:QD} {H H':Hp} {z:Hz} {l f g:Int} {tks:List Tk} {bk:Kvs} {t:Tk} {a':Addr} {rs':List Rn} (h:xD A H z l f g tks bk) (ht:t∈tks) (hS:UD A.Aa H' t.p a' rs') (ho:HC rs') (hl:rs'.length<=10000) (k:Bu t.p H H'):xD A H' z l f g (mF t.n rs' tks) bk:=by
 obtain⟨a,⟨dx,vs,e1,_,_⟩,_⟩:=h.st t ht;obtain⟨dxh,eh⟩:=h.me;obtain⟨dxs,es⟩:=id h.sh;refine⟨⟨dxh,k _ _ eh (h.np t ht).1.symm⟩,⟨dxs,k _ _ es (h.np t ht).2.symm⟩,by rw[NL];exact k _ _ h.t (OE h.t e1 (λz=>nomatch z)),k _ _ h.b (OE h.b e1 (λz=>nomatch z)),λu hu=>?_,by rw[Ub];exact h.nd,by rw[OL];exact h.nk,h.vb,h.ne,λu hu=>?_⟩
 ·obtain⟨v,hv,rfl⟩:=xA.mp hu;by_cases hn:v.n=t.n
  ·obtain rfl:v=t:=EH h.nk hv ht hn;rw[bA rfl];exact⟨a',hS,ho,hl⟩
  ·rw[aA hn];exact (h.st v hv).bu e1 (λz=>hn (by rw[EH h.nd hv ht z])) k
 ·have hu2:u.p∈(mF t.n rs' tks).map Tk.p:=xA.mpr ⟨u,hu,rfl⟩;rw[Ub] at hu2;obtain⟨v,hv,e⟩:=xA.mp hu2;rw[<-e];exact h.np v hv
theorem PL {tks:List Tk} {n:Int} (h:(Sum.inl n:Key)∈cD (yD tks)) (nk:(tks.map Tk.n).Nodup):∃t∈tks,t.n=n/\JC (yD tks) (Sum.inl n)=some (.ref t.p):=by
 obtain⟨v,hv⟩:=eP h;obtain⟨t,ht,e⟩:=xA.mp (bN hv);have e1:(Sum.inl t.n:Key)=Sum.inl n:=congrArg Prod.fst e;have e2:V.ref t.p=v:=congrArg Prod.snd e;exact⟨t,ht,UB e1,by rw[e2];exact hv⟩
noncomputable def QL (A:QD):Sp:=λvs H Q E=>∃(z:Hz) (l f g:Int) (tks:List Tk) (bk:Kvs) (n:Int),vs=[.ref z.p,.int n]/\xD A H z l f g tks bk/\((Sum.inl n∈cD (yD tks)/\Q .non H)\/(Sum.inl n∉cD (yD tks)/\E (.ref A.Ag) none H))
theorem uH (T:AD K mg A):TC P w K mg base A.Af "check_task" 1 ["self","task"] [] (QL A):=by
 refine T.Fu.have yk (λvs H Q E z=>?_) ?_
 ·obtain⟨z,l,f,g,tks,bk,n,rfl,_⟩:=z;rfl
 ·intro f cdv A' outer s H vs Q E hr z;obtain⟨z,l,f',g,tks,bk,n,rfl,hS,q⟩:=z;obtain⟨dx,h1⟩:=hS.me;refine⟨_,(EC (eD (nI (WN (vE hr) (nC 1) (HE (nC 0) rfl))) (EC (BH AH rfl T.P0 (pC wD uC))) fD)),?_⟩;unfold FE;rfl';simp only[h1];rfl';refine⟨T.Ah,T.Aq,_,UG,z.td,rfl,_,.inl ⟨_,Sum.inl n,.inl hS.t,rfl,rfl⟩,?_⟩;rcases q with ⟨h,q⟩|⟨h,q⟩
  ·rw[NS h];exact CC q
  ·rw[OS h];exact qD q
noncomputable def QS (A:QD):Sp:=λvs H Q E=>∃(z:Hz) (l f g:Int) (tks:List Tk) (bk:Kvs) (n:Int),vs=[.ref z.p,.int n]/\xD A H z l f g tks bk/\((Sum.inl n∈cD bk/\Q .non H)\/(Sum.inl n∉cD bk/\E (.ref A.Aj) none H))
theorem RL (T:AD K mg A):TC P w K mg base A.Af "check_bank" 1 ["self","bank"] [] (QS A):=by
 refine T.Fv.have zk (λvs H Q E z=>?_) ?_
 ·obtain⟨z,l,f,g,tks,bk,n,rfl,_⟩:=z;rfl
 ·intro f cdv A' outer s H vs Q E hr z;obtain⟨z,l,f',g,tks,bk,n,rfl,hS,q⟩:=z;obtain⟨dx,h1⟩:=hS.me;refine⟨_,(EC (eD (nI (WN (vE hr) (nC 1) (HE (nC 0) rfl))) (EC (BH AH rfl T.P2 (pC wD uC))) fD)),?_⟩;unfold FE;rfl';simp only[h1];rfl';refine⟨T.Ah,T.Ax,_,ML,z.bd,rfl,_,.inl ⟨bk,Sum.inl n,.inl hS.b,rfl,rfl⟩,?_⟩;rcases q with ⟨h,q⟩|⟨h,q⟩
  ·rw[NS h];exact CC q
  ·rw[OS h];exact qD q
noncomputable def RS (A:QD):Sp:=λvs H Q E=>∃(z:Hz) (l f g:Int) (tks:List Tk) (bk:Kvs) (n x m:Int),vs=[.ref z.p,.int n,.int x,.int m]/\xD A H z l f g tks bk/\
 ((Sum.inl n∉cD (yD tks)/\E (.ref A.Ag) none H)\/(Sum.inl n∈cD (yD tks)/\oE x m (pw (l * f))=false/\E (.ref A.Ad) none H)\/(Sum.inl n∈cD (yD tks)/\oE x m (pw (l * f))=true/\Q .non H))
theorem SL (T:AD K mg A):TC P w K mg base A.Af "check_stretch" 5 ["self","task","first","many"] [] (RS A):=by
 have As:=@uH P w K mg base A T;have M9:=@CL P w K mg base A T;refine T.Do.have Uk (λvs H Q E z=>?_) ?_
 ·obtain⟨z,l,f,g,tks,bk,n,x,m,rfl,_⟩:=z;rfl
 ·intro f cdv A' outer s H vs Q E hr z;obtain⟨z,l,f',g,tks,bk,n,x,m,rfl,hS,q⟩:=z;obtain⟨dx,h1⟩:=hS.me;obtain⟨dxs,h2⟩:=id hS.sh;refine⟨_,(NC (uE (TD (nC 0) T.Ah As (hr.mono (by decide)) KC (pC (nC 1) uC)))
   (EC (eD (ZF (xE (TD (HE (nC 0) rfl) T.Bp M9 (hr.mono (by decide)) KC (pC (nC 2) (pC (nC 3) uC))))) (EC (BH AH rfl T.Nq (pC wD uC))) fD))),?_⟩
  unfold QL W9;rfl';simp only[h1];rfl';refine⟨wF ∅,z,rfl,l,f',g,tks,bk,hS,?_⟩;rcases q with ⟨h,q⟩|⟨h,hf,q⟩|⟨h,hf,q⟩
  ·exact .inr ⟨h,q⟩
  ·refine .inl ⟨h,T.Ah,T.Bs,_,Tb,z.sh,rfl,dxs,_,h2,yS ∅,z.sh,rfl,l,f',g,hS.sh,?_⟩;rw[hf];exact qD q
  ·refine .inl ⟨h,T.Ah,T.Bs,_,Tb,z.sh,rfl,dxs,_,h2,yS ∅,z.sh,rfl,l,f',g,hS.sh,?_⟩;rw[hf];exact CC q
noncomputable def Vb (A:QD):Sp:=λvs H Q E=>∃(z:Hz) (l f g:Int) (tks:List Tk) (bk:Kvs) (b st m:Int),vs=[.ref z.p,.int b,.int st,.int m]/\xD A H z l f g tks bk/\
 ((Sum.inl b∉cD bk/\E (.ref A.Aj) none H)\/∃i:Int,JC bk (Sum.inl b)=some (.int i)/\((¬(0<=st/\st<=i - m)/\E (.ref A.Ae) none H)\/((0<=st/\st<=i - m)/\Q .non H)))
theorem fP (T:AD K mg A):TC P w K mg base A.Af "check_part_of_bank" 3 ["self","bank","start","many"] [] (Vb A):=by
 have A9:=@RL P w K mg base A T;have Av:=@YM P w K mg base A T;refine T.Bx.have Vk (λvs H Q E z=>?_) ?_
 ·obtain⟨z,l,f,g,tks,bk,b,st,m,rfl,_⟩:=z;rfl
 ·intro f cdv A' outer s H vs Q E hr z;obtain⟨z,l,f',g,tks,bk,b,st,m,rfl,hS,q⟩:=z;obtain⟨dx,h1⟩:=hS.me;refine⟨_,(NC (uE (TD (nC 0) T.Ah A9 (hr.mono (by decide)) KC (pC (nC 1) uC)))
   (EC (eD (ZF (xE (lD Av (hr.mono (by decide)) KC (pC (nC 2) (pC sC (pC (ZC YG (hG (vE hr) (HE (nC 0) rfl) (nC 1) (λο ο=>rfl)) (nC 3)) uC)))))) (EC (BH AH rfl T.Ht (pC wD uC))) fD))),?_⟩
  unfold QS sp_is_within ND;rfl';simp only[h1];rfl';refine⟨wF ∅,z,rfl,l,f',g,tks,bk,hS,?_⟩;rcases q with ⟨h,q⟩|⟨i,hi,q⟩
  ·exact .inr ⟨h,q⟩
  ·refine .inl ⟨uJ hi,T.Ah,T.Ax,_,ML,z.bd,rfl,_,.inl ⟨bk,Sum.inl b,.inl hS.b,rfl,hi.symm⟩,i,rfl,?_⟩;rw[CH];rcases q with ⟨h,q⟩|⟨⟨h2,h3⟩,q⟩
   ·have e:(decide (0<=st)&&decide (st<=i - m))=false:=by
     rw[JB];intro z;simp only[ZA,kB] at z;exact h z
    rw[e];exact qD q
   ·rw[kA h2,kA h3];exact CC q
theorem xD.more {A:QD} {H H':Hp} {z:Hz} {l f g:Int} {tks:List Tk} {bk:Kvs} {k:Int} {p:Addr} (h:xD A H z l f g tks bk) (s:vC H H') (hn:H p=none) (hp:uF A.Aa H' ⟨k,p,[]⟩) (hk:Sum.inl k∉cD (yD tks)):
  xD A (yC H' z.td (.dK (yD (tks++[⟨k,p,[]⟩])))) z l f g (tks++[⟨k,p,[]⟩]) bk:=by
 have hs:=h.same s;obtain⟨dx,e⟩:=hs.me;obtain⟨dxs,es⟩:=id hs.sh;have np:∀t∈tks,t.p≠p:=λt ht z=>by
  obtain⟨a,⟨dx,vs,e1,_⟩,_⟩:=h.st t ht;rw[z,hn] at e1;cases e1
 refine⟨⟨dx,?_⟩,⟨dxs,?_⟩,SC,?_,λt ht=>?_,?_,?_,h.vb,h.ne,λt ht=>?_⟩
 ·rw[WC (OE e hs.t (λz=>nomatch z))];exact e
 ·rw[WC (OE es hs.t (λz=>nomatch z))];exact es
 ·rw[WC h.ne.symm];exact hs.b
 ·rcases rA.mp ht with q|q
  ·exact (hs.st t q).kd hs.t cG
  ·rw[gA.mp q];exact hp.kd hs.t cG
 ·rw[KA,QA,KB,LB];refine⟨h.nd,by simp,λa ha b hb=>?_⟩;obtain⟨t,ht,rfl⟩:=xA.mp ha;rw[gA.mp hb];exact np t ht
 ·rw[KA,QA,KB,LB];refine⟨h.nk,by simp,λa ha b hb z=>?_⟩;obtain⟨t,ht,rfl⟩:=xA.mp ha;rw[gA.mp hb] at z;refine hk ?_;show _∈(yD tks).map (·.1);unfold yD;rw[HB];exact xA.mpr ⟨t,ht,by show (Sum.inl t.n:Key)=_;rw[z]⟩
 ·rcases rA.mp ht with q|q
  ·exact h.np t q
  ·rw[gA.mp q];obtain⟨dx0,e0⟩:=h.me;obtain⟨dx1,e1⟩:=id h.sh;exact⟨(λz=>by rw[<-z,hn] at e0;cases e0),(λz=>by rw[<-z,hn] at e1;cases e1)⟩
theorem xD.bank {A:QD} {H:Hp} {z:Hz} {l f g:Int} {tks:List Tk} {bk bk':Kvs} (h:xD A H z l f g tks bk) (hv:∀kv∈bk',∃i:Int,kv.2=.int i):xD A (yC H z.bd (.dK bk')) z l f g tks bk':=by
 obtain⟨dx,e⟩:=h.me;obtain⟨dxs,es⟩:=id h.sh;exact⟨⟨dx,by rw[WC (OE e h.b (λz=>nomatch z))];exact e⟩,⟨dxs,by rw[WC (OE es h.b (λz=>nomatch z))];exact es⟩,by rw[WC h.ne];exact h.t,SC,λt ht=>(h.st t ht).kd h.b cG,h.nd,h.nk,hv,h.ne,h.np⟩
inductive YJ (A:QD) (vs:List V) (H:Hp) (Q:VK) (E:XK):Prop where
 |mk (z:Hz) (l f g:Int) (tks:List Tk) (bk:Kvs) (_:vs=[.ref z.p]) (_:xD A H z l f g tks bk) (_:tks.length < 1000) (_:∀(k:Nat) (p:Addr) (H':Hp),DH (cD (yD tks)) k->xD A H' z l f g (tks++[⟨k,p,[]⟩]) bk->H p=none->Kd z.td H H'->Q (.int k) H'):YJ A vs H Q E
noncomputable def ZJ (A:QD):Sp:=YJ A
theorem vW (T:AD K mg A):TC P w K mg base A.Af "new_task" 3 ["self"] [] (ZJ A):=by
 have Bl:=@uW P w K mg base A T;have Bq:=@kb P w K mg base A T;refine T.Ic.have q9 (λvs H Q E z=>?_) ?_
 ·obtain⟨z,l,f,g,tks,bk,rfl,_⟩:=z;rfl
 ·intro f cdv A' outer s H vs Q E hr z;obtain⟨z,l,f',g,tks,bk,rfl,hS,hl,q⟩:=z;obtain⟨dx,h1⟩:=hS.me;have hlen:(yD tks).length=tks.length:=by unfold yD;rw[dA]
  refine⟨_,(NC (sD (i:=1) q9.nd rfl (Or.inl rfl) (lD Bl (hr.mono (by decide)) KC (pC (HE (nC 0) rfl) uC)))
   (NC (QI (vE hr) (HE (nC 0) rfl) (nC 1) (Y5 Bq (hr.mono (by decide)) KC) rfl)
   (EC (YC (nC 1))))),?_⟩
  unfold sp_least_free qW aF;rfl';simp only[h1];rfl';refine⟨T.Ah,T.Aq,_,UG,z.td,rfl,_,hS.t,λk hk x ex hx hex hne a2 ha2=>?_⟩;have nax:a2≠x:=λz=>by rw[z,SC] at ha2;cases ha2
  rw[WC nax] at ha2;have nad:a2≠ex:=λz=>by rw[z,SC] at ha2;cases ha2
  rw[WC nad] at ha2;have s1:vC H (yC (yC (yC (yC H ex (.own x)) x (.ins A.Aa ex [])) a2 (.lst [])) x (.ins A.Aa ex (SG a2))):=λc o h=>by
   rw[WC (AE h hx),WC (AE h ha2),WC (AE h hx),WC (AE h hex)];exact h
  have hx3:yC (yC (yC (yC H ex (.own x)) x (.ins A.Aa ex [])) a2 (.lst [])) x (.ins A.Aa ex (SG a2)) x=some (.ins A.Aa ex (SG a2)):=SC;have ha3:yC (yC (yC (yC H ex (.own x)) x (.ins A.Aa ex [])) a2 (.lst [])) x (.ins A.Aa ex (SG a2)) a2=some (.lst []):=by rw[WC nax,SC]
  generalize yC (yC (yC (yC H ex (.own x)) x (.ins A.Aa ex [])) a2 (.lst [])) x (.ins A.Aa ex (SG a2))=H3 at *;have hz:=PySem.sizeLine_eq;refine⟨_,dx,_,s1 _ _ h1,T.Ah,T.Aq,_,UG,z.td,rfl,_,.inl ⟨_,Sum.inl (k:Int),s1 _ _ hS.t,rfl,⋯,rfl⟩,?_⟩;have e:ED (yD tks) (Sum.inl (k:Int)) (.ref x)=yD (tks++[⟨k,x,[]⟩]):=by
   rw[cN hk.1];unfold yD;rw[KA];rfl
  rw[e];exact q k x _ hk (hS.more s1 hx ⟨a2,⟨ex,[],hx3,ha3,.nil⟩,⟨.nil,(λr hr=>by simp at hr)⟩,by show (0:Nat)<=10000;decide⟩ hk.1) hx ((Kd.of s1).trans cG)
inductive aK (A:QD) (vs:List V) (H:Hp) (Q:VK) (E:XK):Prop where
 |mk (z:Hz) (l f g:Int) (tks:List Tk) (bk:Kvs) (n:Int) (_:vs=[.ref z.p,.int n]) (_:xD A H z l f g tks bk) (_:bk.length < 1000) (_:(((1<=n/\n<=64)/\∀(k:Nat) (H':Hp),DH (cD bk) k->xD A H' z l f g tks (bk++[(Sum.inl (k:Int),.int n)])->Kd z.bd H H'->Q (.int k) H')\/(¬(1<=n/\n<=64)/\E (.ref A.Ae) none H))):aK A vs H Q E
noncomputable def bK (A:QD):Sp:=aK A
theorem wW (T:AD K mg A):TC P w K mg base A.Af "new_bank" 4 ["self","many"] [] (bK A):=by
 have Bl:=@uW P w K mg base A T;have Av:=@YM P w K mg base A T;refine T.Id.have t9 (λvs H Q E z=>?_) ?_
 ·obtain⟨z,l,f,g,tks,bk,n,rfl,_⟩:=z;rfl
 ·intro f cdv A' outer s H vs Q E hr z;obtain⟨z,l,f',g,tks,bk,n,rfl,hS,hl,q⟩:=z;obtain⟨dx,h1⟩:=hS.me;refine⟨_,(NC (eD (ZF (xE (lD Av (hr.mono (by decide)) KC (pC (nC 1) (pC sC (pC (PH rfl T.Jw) uC)))))) (EC (BH AH rfl T.Ht (pC wD uC))) fD)
   (NC (sD (i:=2) t9.nd rfl (Or.inl rfl) (lD Bl (hr.mono (by decide)) KC (pC (HE (nC 0) rfl) uC)))
   (NC (QI (vE hr) (HE (nC 0) rfl) (nC 2) (nC 1) rfl)
   (EC (YC (nC 2)))))),?_⟩
  unfold sp_least_free sp_is_within aF;rfl';simp only[h1];rfl';have hz:=PySem.sizeLine_eq;rw[CH];rcases q with ⟨⟨h2,h3⟩,q⟩|⟨h,q⟩
  ·rw[kA h2,kA h3];refine CC ⟨T.Ah,T.Ax,_,ML,z.bd,rfl,bk,hS.b,λk hk=>⟨T.Ah,T.Ax,_,ML,z.bd,rfl,_,.inl ⟨bk,Sum.inl (k:Int),hS.b,rfl,⋯,rfl⟩,?_⟩⟩;rw[cN hk.1];refine q k _ hk (hS.bank λkv hkv=>?_) cG;rcases rA.mp hkv with q|q
   ·exact hS.vb kv q
   ·rw[gA.mp q];exact⟨n,rfl⟩
  ·have e:(decide (1<=n)&&decide (n<=64))=false:=by
    rw[JB];intro z;simp only[ZA,kB] at z;exact h z
   rw[e];exact qD q
noncomputable def CI (rs:List Rn) (x m r:Int) (t:Option (Int×Int)):List Rn:=ZD rs x m [⟨x,m,r,t⟩]
noncomputable def bV:Option Int->V
 |none=>.non
 |some b=>.int b
noncomputable def tE (b:Option Int) (st:Int):Option (Int×Int):=b.map λb=>(b,st)
inductive Wb (A:QD) (vs:List V) (H:Hp) (Q:VK) (E:XK):Prop where
 |mk (z:Hz) (l f g:Int) (tks:List Tk) (bk:Kvs) (n x m r st:Int) (b:Option Int) (_:vs=[.ref z.p,.int n,.int x,.int m,.int r,bV b,.int st]) (_:xD A H z l f g tks bk) (_:((Sum.inl n∉cD (yD tks)/\E (.ref A.Ag) none H)\/(Sum.inl n∈cD (yD tks)/\oE x m (pw (l * f))=false/\E (.ref A.Ad) none H)\/(Sum.inl n∈cD (yD tks)/\oE x m (pw (l * f))=true/\((¬(0<=r/\r<=3)/\E (.ref A.Ab) none H)\/((0<=r/\r<=3)/\((∃b',b=some b'/\((Sum.inl b'∉cD bk/\E (.ref A.Aj) none H)\/∃i:Int,JC bk (Sum.inl b')=some (.int i)/\¬(0<=st/\st<=i - m)/\E (.ref A.Ae) none H))\/((∀b',b=some b'->∃i:Int,JC bk (Sum.inl b')=some (.int i)/\0<=st/\st<=i - m)/\∃t∈tks,t.n=n/\((aE t.rs x m≠[]/\∀H',vC H H'->E (.ref A.Ak) none H')\/(aE t.rs x m=[]/\HC (CI t.rs x m r (tE b st))/\(CI t.rs x m r (tE b st)).length<=10000/\∀H',xD A H' z l f g (mF n (CI t.rs x m r (tE b st)) tks) bk->Bu t.p H H'->Q .non H'))))))))):Wb A vs H Q E
noncomputable def gP (A:QD):Sp:=Wb A
theorem Xb (T:AD K mg A):EF P w K mg base "House.lay" dI ["self","task","first","many","rights","bank","start","tie"] 8 (gP A):=by
 have Ay:=@SL P w K mg base A T;have Be:=@JL P w K mg base A T;have Bz:=@fP P w K mg base A T;have Ju:=@Xl P w K mg base A T;intro f cdv A' outer s H vs Q E hr z;obtain⟨z,l,f',g,tks,bk,n,x,m,r,st,b,rfl,hS,q⟩:=z;obtain⟨dx,h1⟩:=hS.me;refine⟨_,(NC (uE (TD (nC 0) T.Ah Ay (hr.mono (by decide)) KC (pC (nC 1) (pC (nC 2) (pC (nC 3) uC)))))
   (NC (uE (lD Be (hr.mono (by decide)) KC (pC (nC 4) uC)))
   (NC (sD (i:=7) uS.nd rfl (Or.inl rfl) XE)
   (OD (eD (tD HN (nC 5) XE (rC _)) (NC (uE (TD (nC 0) T.Ah Bz (hr.mono (by decide)) KC (pC (nC 5) (pC (nC 6) (pC (nC 3) uC)))))
   (EC (sD (i:=7) uS.nd rfl (Or.inl rfl) (YD (pC (nC 5) (pC (nC 6) uC)))))) fD)
   (EC (uE (TD (hG (vE hr) (HE (nC 0) rfl) (nC 1) (λο ο=>rfl)) T.Ai Ju (hr.mono (by decide)) KC (pC (nC 2) (pC (nC 3) (pC (nC 4) (pC (nC 7) uC))))))))))),?_⟩
 unfold RS KS Vb MS ND;rfl';simp only[h1];rfl';refine⟨wF ∅,z,rfl,l,f',g,tks,bk,hS,?_⟩;rcases q with ⟨h,q⟩|⟨h,hf,q⟩|⟨h,hf,q⟩
 ·exact .inl ⟨h,q⟩
 ·exact .inr (.inl ⟨h,hf,q⟩)
 refine .inr (.inr ⟨h,hf,?_⟩);rcases q with ⟨hb,q⟩|⟨hb,q⟩
 ·rw[aA (by rw[CH];simpa using hb)];exact q
 rw[bA (by rw[CH,kA hb.1,kA hb.2];rfl)];rcases q with ⟨b',rfl,q⟩|⟨hall,t,ht,hn,q⟩
 ·refine⟨λο ο=>False,?_,λο ο z=>z.elim⟩;unfold bV;rfl';simp only[h1];rfl';rw[yA (λz=>nomatch z)];refine qD ⟨wF ∅,z,rfl,l,f',g,tks,bk,hS,?_⟩;rcases q with ⟨h3,q⟩|⟨i,hi,h3,q⟩
  ·exact .inl ⟨h3,q⟩
  ·exact .inr ⟨i,hi,.inl ⟨h3,q⟩⟩
 refine RC (λσ H'=>∃tv,σ=[some (.ref z.p),some (.int n),some (.int x),some (.int m),some (.int r),some (bV b),some (.int st),some tv]/\vC H H'/\vD H' tv (tE b st)) ?_ λU9 D9 hU9 hD9 σ' H'=>?_
 ·cases b with
  |none=>
   unfold bV;rfl';exact CC ⟨LC,rfl⟩
  |some b'=>
   unfold bV;rfl';simp only[h1];rfl';rw[yA (λz=>nomatch z)];obtain⟨i,hi,h3,h4⟩:=hall b' rfl;exact qD ⟨wF ∅,z,rfl,l,f',g,tks,bk,hS,.inr ⟨i,hi,.inr ⟨h3,h4,λp hp=>⟨dD LC hp,p,rfl,SC⟩⟩⟩⟩
 rintro⟨tv,rfl,s1,hT⟩;subst hU9 hD9;have hS1:=hS.same s1;rfl';obtain⟨t',ht',hn',hv⟩:=PL h hS.nk;obtain rfl:t'=t:=EH hS.nk ht' ht (hn'.trans hn.symm);obtain⟨a,hA,ho,hl⟩:=hS1.st t' ht;obtain⟨dx2,vs2,e1,e2,e3⟩:=id hA;refine⟨_,dx,_,s1 _ _ h1,T.Ah,T.Aq,_,UG,z.td,rfl,_,.inl ⟨_,Sum.inl n,.inl hS1.t,rfl,hv.symm⟩,t'.p,rfl,dx2,_,e1,tF ∅,?_⟩;refine⟨t'.p,rfl,a,t'.rs,hA,ho,⋯,tE b st,hT,?_⟩;rw[bA hb];rcases q with ⟨hp,q⟩|⟨hp,ho2,hl2,q⟩
 ·rw[aA hp];exact λH2 s2=>q _ (s1.trans s2)
 ·rw[bA hp];exact λa' H2 hS2 hB=>q H2 (by rw[<-hn];exact hS1.set ht hS2 ho2 hl2 hB) (λc o hc hne=>hB c o (s1 c o hc) hne)
theorem Yb {A:QD}:∀vs H Q E,gP A vs H Q E->vs.length=7:=λvs H Q E z=>by
 obtain⟨z,l,f,g,tks,bk,n,x,m,r,st,b,rfl,_⟩:=z;rfl
theorem TL (T:AD K mg A):TC P w K mg base A.Af "lay" 9 ["self","task","first","many","rights","bank","start"] [] (gP A):=T.No.have uS Yb (Xb T)
theorem gm (T:AD K mg A):TC P w K mg base A.Af "lay" 9 ["self","task","first","many","rights","bank","start"] [.non,.int 0] (gP A):=T.Lk.have uS Yb (Xb T)
inductive Zb (A:QD) (vs:List V) (H:Hp) (Q:VK) (E:XK):Prop where
 |mk (z:Hz) (l f g:Int) (tks:List Tk) (bk:Kvs) (n x m:Int) (_:vs=[.ref z.p,.int n,.int x,.int m]) (_:xD A H z l f g tks bk) (_:((Sum.inl n∉cD (yD tks)/\E (.ref A.Ag) none H)\/(Sum.inl n∈cD (yD tks)/\oE x m (pw (l * f))=false/\E (.ref A.Ad) none H)\/(Sum.inl n∈cD (yD tks)/\oE x m (pw (l * f))=true/\∃t∈tks,t.n=n/\((((aE t.rs x m).map (·.m)).sum≠m/\∀H',vC H H'->E (.ref A.Ac) none H')\/(((aE t.rs x m).map (·.m)).sum=m/\HC (ZD t.rs x m [])/\(ZD t.rs x m []).length<=10000/\∀H',xD A H' z l f g (mF n (ZD t.rs x m []) tks) bk->Bu t.p H H'->Q .non H'))))):Zb A vs H Q E
noncomputable def cc (A:QD):Sp:=Zb A
theorem UL (T:AD K mg A):TC P w K mg base A.Af "lift" 9 ["self","task","first","many"] [] (cc A):=by
 have Ay:=@SL P w K mg base A T;have Jv:=@dP P w K mg base A T;refine T.Ll.have gk (λvs H Q E z=>?_) ?_
 ·obtain⟨z,l,f,g,tks,bk,n,x,m,rfl,_⟩:=z;rfl
 ·intro f cdv A' outer s H vs Q E hr z;obtain⟨z,l,f',g,tks,bk,n,x,m,rfl,hS,q⟩:=z;obtain⟨dx,h1⟩:=hS.me;refine⟨_,(NC (uE (TD (nC 0) T.Ah Ay (hr.mono (by decide)) KC (pC (nC 1) (pC (nC 2) (pC (nC 3) uC)))))
   (EC (uE (TD (hG (vE hr) (HE (nC 0) rfl) (nC 1) (λο ο=>rfl)) T.Ai Jv (hr.mono (by decide)) KC (pC (nC 2) (pC (nC 3) uC)))))),?_⟩
  unfold RS rb ND;rfl';simp only[h1];rfl';refine⟨wF ∅,z,rfl,l,f',g,tks,bk,hS,?_⟩;rcases q with ⟨h,q⟩|⟨h,hf,q⟩|⟨h,hf,t,ht,hn,q⟩
  ·exact .inl ⟨h,q⟩
  ·exact .inr (.inl ⟨h,hf,q⟩)
  obtain⟨t',ht',hn',hv⟩:=PL h hS.nk;obtain rfl:t'=t:=EH hS.nk ht' ht (hn'.trans hn.symm);obtain⟨a,hA,ho,hl⟩:=hS.st t' ht;obtain⟨dx2,vs2,e1,e2,e3⟩:=id hA;refine .inr (.inr ⟨h,hf,T.Ah,T.Aq,_,UG,z.td,rfl,_,.inl ⟨_,Sum.inl n,.inl hS.t,rfl,hv.symm⟩,t'.p,rfl,dx2,_,e1,tF ∅,t'.p,rfl,a,t'.rs,hA,ho,⋯,?_⟩);rcases q with ⟨hp,q⟩|⟨hp,ho2,hl2,q⟩
  ·rw[aA hp];exact q
  ·rw[bA hp];exact λa' H2 hS2 hB=>q H2 (by rw[<-hn];exact hS.set ht hS2 ho2 hl2 hB) hB
inductive dc (A:QD) (vs:List V) (H:Hp) (Q:VK) (E:XK):Prop where
 |mk (z:Hz) (l f g:Int) (tks:List Tk) (bk:Kvs) (n x m r:Int) (_:vs=[.ref z.p,.int n,.int x,.int m,.int r]) (_:xD A H z l f g tks bk) (_:((Sum.inl n∉cD (yD tks)/\E (.ref A.Ag) none H)\/(Sum.inl n∈cD (yD tks)/\oE x m (pw (l * f))=false/\E (.ref A.Ad) none H)\/(Sum.inl n∈cD (yD tks)/\oE x m (pw (l * f))=true/\∃t∈tks,t.n=n/\((¬(0<=r/\r<=3)/\E (.ref A.Ab) none H)\/((0<=r/\r<=3)/\((((aE t.rs x m).map (·.m)).sum≠m/\∀H',vC H H'->E (.ref A.Ac) none H')\/(((aE t.rs x m).map (·.m)).sum=m/\HC (ZD t.rs x m ((aE t.rs x m).map (BI r)))/\(ZD t.rs x m ((aE t.rs x m).map (BI r))).length<=10000/\∀H',xD A H' z l f g (mF n (ZD t.rs x m ((aE t.rs x m).map (BI r))) tks) bk->Bu t.p H H'->Q .non H'))))))):dc A vs H Q E
noncomputable def fc (A:QD):Sp:=dc A
theorem im (T:AD K mg A):TC P w K mg base A.Af "guard" 9 ["self","task","first","many","rights"] [] (fc A):=by
 have Ay:=@SL P w K mg base A T;have Hn:=@Zl P w K mg base A T;refine T.K2.have jk (λvs H Q E z=>?_) ?_
 ·obtain⟨z,l,f,g,tks,bk,n,x,m,r,rfl,_⟩:=z;rfl
 ·intro f cdv A' outer s H vs Q E hr z;obtain⟨z,l,f',g,tks,bk,n,x,m,r,rfl,hS,q⟩:=z;obtain⟨dx,h1⟩:=hS.me;refine⟨_,(NC (uE (TD (nC 0) T.Ah Ay (hr.mono (by decide)) KC (pC (nC 1) (pC (nC 2) (pC (nC 3) uC)))))
   (EC (uE (TD (hG (vE hr) (HE (nC 0) rfl) (nC 1) (λο ο=>rfl)) T.Ai Hn (hr.mono (by decide)) KC (pC (nC 2) (pC (nC 3) (pC (nC 4) uC))))))),?_⟩
  unfold RS wb ND;rfl';simp only[h1];rfl';refine⟨wF ∅,z,rfl,l,f',g,tks,bk,hS,?_⟩;rcases q with ⟨h,q⟩|⟨h,hf,q⟩|⟨h,hf,t,ht,hn,q⟩
  ·exact .inl ⟨h,q⟩
  ·exact .inr (.inl ⟨h,hf,q⟩)
  obtain⟨t',ht',hn',hv⟩:=PL h hS.nk;obtain rfl:t'=t:=EH hS.nk ht' ht (hn'.trans hn.symm);obtain⟨a,hA,ho,hl⟩:=hS.st t' ht;obtain⟨dx2,vs2,e1,e2,e3⟩:=id hA;refine .inr (.inr ⟨h,hf,T.Ah,T.Aq,_,UG,z.td,rfl,_,.inl ⟨_,Sum.inl n,.inl hS.t,rfl,hv.symm⟩,t'.p,rfl,dx2,_,e1,tF ∅,t'.p,rfl,a,t'.rs,hA,ho,⋯,?_⟩);rcases q with ⟨hb,q⟩|⟨hb,q⟩
  ·rw[aA hb];exact q
  rw[bA hb];rcases q with ⟨hp,q⟩|⟨hp,ho2,hl2,q⟩
  ·rw[aA hp];exact q
  ·rw[bA hp];exact λa' H2 hS2 hB=>q H2 (by rw[<-hn];exact hS.set ht hS2 ho2 hl2 hB) hB
inductive gc (A:QD) (vs:List V) (H:Hp) (Q:VK) (E:XK):Prop where
 |mk (z:Hz) (l f g:Int) (tks:List Tk) (bk:Kvs) (n x:Int) (_:vs=[.ref z.p,.int n,.int x]) (_:xD A H z l f g tks bk) (_:((Sum.inl n∉cD (yD tks)/\E (.ref A.Ag) none H)\/∃t∈tks,t.n=n/\∀H',vC H H'->Q (oR (pm t.rs x)) H')):gc A vs H Q E
noncomputable def VL (A:QD):Sp:=gc A
theorem cK {tks:List Tk} {t:Tk} (ht:t∈tks):(Sum.inl t.n:Key)∈cD (yD tks):=by
 unfold cD yD;rw[HB];exact xA.mpr ⟨t,ht,rfl⟩
theorem eK (T:AD K mg A):TC P w K mg base A.Af "rights_at" 7 ["self","task","page"] [] (VL A):=by
 have As:=@uH P w K mg base A T;have Dw:=@aP P w K mg base A T;refine T.Gy.have wk (λvs H Q E z=>?_) ?_
 ·obtain⟨z,l,f,g,tks,bk,n,x,rfl,_⟩:=z;rfl
 ·intro f cdv A' outer s H vs Q E hr z;obtain⟨z,l,f',g,tks,bk,n,x,rfl,hS,q⟩:=z;obtain⟨dx,h1⟩:=hS.me;refine⟨_,(NC (uE (TD (nC 0) T.Ah As (hr.mono (by decide)) KC (pC (nC 1) uC)))
   (EC (YC (TD (hG (vE hr) (HE (nC 0) rfl) (nC 1) (λο ο=>rfl)) T.Ai Dw (hr.mono (by decide)) KC (pC (nC 2) uC))))),?_⟩
  unfold QL fb ND;rfl';simp only[h1];rfl';refine⟨wF ∅,z,rfl,l,f',g,tks,bk,hS,?_⟩;rcases q with ⟨h,q⟩|⟨t,ht,hn,q⟩
  ·exact .inr ⟨h,q⟩
  subst hn;obtain⟨t',ht',hn',hv⟩:=PL (cK ht) hS.nk;obtain rfl:t'=t:=EH hS.nk ht' ht hn';obtain⟨a,hA,ho,hl⟩:=hS.st t' ht;obtain⟨dx2,vs2,e1,e2,e3⟩:=id hA;exact .inl ⟨cK ht,T.Ah,T.Aq,_,UG,z.td,rfl,_,.inl ⟨_,Sum.inl t'.n,.inl hS.t,rfl,hv.symm⟩,t'.p,rfl,dx2,_,e1,tF ∅,t'.p,rfl,a,t'.rs,hA,ho,⋯,q⟩
inductive ic (A:QD) (vs:List V) (H:Hp) (Q:VK) (E:XK):Prop where
 |mk (z:Hz) (l f g:Int) (tks:List Tk) (bk:Kvs) (n x:Int) (_:vs=[.ref z.p,.int n,.int x]) (_:xD A H z l f g tks bk) (_:((Sum.inl n∉cD (yD tks)/\E (.ref A.Ag) none H)\/∃t∈tks,t.n=n/\∀v H',vC H H'->vD H' v ((pm t.rs x).bind (·.2))->Q v H')):ic A vs H Q E
noncomputable def WL (A:QD):Sp:=ic A
theorem fK (T:AD K mg A):TC P w K mg base A.Af "tie_at" 7 ["self","task","page"] [] (WL A):=by
 have As:=@uH P w K mg base A T;have Gp:=@bP P w K mg base A T;refine T.J1.have xk (λvs H Q E z=>?_) ?_
 ·obtain⟨z,l,f,g,tks,bk,n,x,rfl,_⟩:=z;rfl
 ·intro f cdv A' outer s H vs Q E hr z;obtain⟨z,l,f',g,tks,bk,n,x,rfl,hS,q⟩:=z;obtain⟨dx,h1⟩:=hS.me;refine⟨_,(NC (uE (TD (nC 0) T.Ah As (hr.mono (by decide)) KC (pC (nC 1) uC)))
   (EC (YC (TD (hG (vE hr) (HE (nC 0) rfl) (nC 1) (λο ο=>rfl)) T.Ai Gp (hr.mono (by decide)) KC (pC (nC 2) uC))))),?_⟩
  unfold QL jb ND;rfl';simp only[h1];rfl';refine⟨wF ∅,z,rfl,l,f',g,tks,bk,hS,?_⟩;rcases q with ⟨h,q⟩|⟨t,ht,hn,q⟩
  ·exact .inr ⟨h,q⟩
  subst hn;obtain⟨t',ht',hn',hv⟩:=PL (cK ht) hS.nk;obtain rfl:t'=t:=EH hS.nk ht' ht hn';obtain⟨a,hA,ho,hl⟩:=hS.st t' ht;obtain⟨dx2,vs2,e1,e2,e3⟩:=id hA;exact .inl ⟨cK ht,T.Ah,T.Aq,_,UG,z.td,rfl,_,.inl ⟨_,Sum.inl t'.n,.inl hS.t,rfl,hv.symm⟩,t'.p,rfl,dx2,_,e1,tF ∅,t'.p,rfl,a,t'.rs,hA,ho,⋯,q⟩
noncomputable def yG (n:Int) (tks:List Tk):List Tk:=tks.filter λt=>decide (t.n≠n)
theorem YL {n:Int} {tks:List Tk}:nD (yD tks) (Sum.inl n)=yD (yG n tks):=by
 unfold nD yD yG;rw[List.filter_map];congr 1;refine List.filter_congr λt ο=>?_;show decide ((Sum.inl t.n:Key)≠Sum.inl n)=decide (t.n≠n);rw[yB];simp only[kB];exact⟨λz e=>z (by rw[e]),λz e=>z (UB e)⟩
theorem xD.less {A:QD} {H:Hp} {z:Hz} {l f g:Int} {tks:List Tk} {bk:Kvs} {n:Int} (h:xD A H z l f g tks bk):xD A (yC H z.td (.dK (yD (yG n tks)))) z l f g (yG n tks) bk:=by
 obtain⟨dx,e⟩:=h.me;obtain⟨dxs,es⟩:=id h.sh;have sub:∀t∈yG n tks,t∈tks:=λt ht=>(zB.mp ht).1;exact⟨⟨dx,by rw[WC (OE e h.t (λz=>nomatch z))];exact e⟩,⟨dxs,by rw[WC (OE es h.t (λz=>nomatch z))];exact es⟩,SC,by rw[WC h.ne.symm];exact h.b,λt ht=>(h.st t (sub t ht)).kd h.t cG,h.nd.sublist (List.Sublist.map _ List.filter_sublist),h.nk.sublist (List.Sublist.map _ List.filter_sublist),h.vb,h.ne,λt ht=>h.np t (sub t ht)⟩
theorem xD.kd {A:QD} {H H':Hp} {z:Hz} {l f g:Int} {tks:List Tk} {bk kvs:Kvs} {d:Addr} (h:xD A H z l f g tks bk) (hd:H d=some (.dK kvs)) (n1:d≠z.td) (n2:d≠z.bd) (k:Kd d H H'):xD A H' z l f g tks bk:=by
 obtain⟨dx,e⟩:=h.me;obtain⟨dxs,es⟩:=id h.sh;exact⟨⟨dx,k _ _ e (OE e hd (λz=>nomatch z))⟩,⟨dxs,k _ _ es (OE es hd (λz=>nomatch z))⟩,k _ _ h.t n1.symm,k _ _ h.b n2.symm,λt ht=>(h.st t ht).kd hd k,h.nd,h.nk,h.vb,h.ne,h.np⟩
inductive jc (A:QD) (vs:List V) (H:Hp) (Q:VK) (E:XK):Prop where
 |mk (z:Hz) (l f g:Int) (tks:List Tk) (bk:Kvs) (n:Int) (_:vs=[.ref z.p,.int n]) (_:xD A H z l f g tks bk) (_:((Sum.inl n∈cD (yD tks)/\∀H',xD A H' z l f g (yG n tks) bk->Kd z.td H H'->Q .non H')\/(Sum.inl n∉cD (yD tks)/\E (.ref A.Ag) none H))):jc A vs H Q E
noncomputable def lc (A:QD):Sp:=jc A
theorem iP (T:AD K mg A):TC P w K mg base A.Af "end_task" 2 ["self","task"] [] (lc A):=by
 have As:=@uH P w K mg base A T;refine T.Ie.have fk (λvs H Q E z=>?_) ?_
 ·obtain⟨z,l,f,g,tk,bk,n,rfl,_⟩:=z;rfl
 ·intro f cdv A' outer s H vs Q E hr z;obtain⟨z,l,f',g,tk,bk,n,rfl,hS,q⟩:=z;obtain⟨dx,h1⟩:=hS.me;refine⟨_,(NC (uE (TD (nC 0) T.Ah As (hr.mono (by decide)) KC (pC (nC 1) uC)))
   (EC (uE (XN (HE (nC 0) rfl) (nC 1) ⟨rfl,rfl,rfl,rfl⟩)))),?_⟩
  unfold QL jF;rfl';simp only[h1];rfl';refine⟨wF ∅,z,rfl,l,f',g,tk,bk,hS,?_⟩;rcases q with ⟨h,q⟩|⟨h,q⟩
  ·obtain⟨v,hv⟩:=eP h;refine .inl ⟨h,T.Ah,T.Aq,_,UG,z.td,rfl,.inl ⟨_,.inl hS.t⟩,_,hS.t,Sum.inl n,rfl,v,hv,?_⟩;rw[YL];exact q _ hS.less cG
  ·exact .inr ⟨h,q⟩
theorem xD.moreR {A:QD} {H H':Hp} {z:Hz} {l f g:Int} {tks:List Tk} {bk:Kvs} {k:Int} {p:Addr} {rs:List Rn} (h:xD A H z l f g tks bk) (s:vC H H') (hn:H p=none) (hp:uF A.Aa H' ⟨k,p,rs⟩) (hk:Sum.inl k∉cD (yD tks)):
  xD A (yC H' z.td (.dK (yD (tks++[⟨k,p,rs⟩])))) z l f g (tks++[⟨k,p,rs⟩]) bk:=by
 have hs:=h.same s;obtain⟨dx,e⟩:=hs.me;obtain⟨dxs,es⟩:=id hs.sh;have np:∀t∈tks,t.p≠p:=λt ht z=>by
  obtain⟨a,⟨dx,vs,e1,_⟩,_⟩:=h.st t ht;rw[z,hn] at e1;cases e1
 refine⟨⟨dx,?_⟩,⟨dxs,?_⟩,SC,?_,λt ht=>?_,?_,?_,h.vb,h.ne,λt ht=>?_⟩
 ·rw[WC (OE e hs.t (λz=>nomatch z))];exact e
 ·rw[WC (OE es hs.t (λz=>nomatch z))];exact es
 ·rw[WC h.ne.symm];exact hs.b
 ·rcases rA.mp ht with q|q
  ·exact (hs.st t q).kd hs.t cG
  ·rw[gA.mp q];exact hp.kd hs.t cG
 ·rw[KA,QA,KB,LB];refine⟨h.nd,by simp,λa ha b hb=>?_⟩;obtain⟨t,ht,rfl⟩:=xA.mp ha;rw[gA.mp hb];exact np t ht
 ·rw[KA,QA,KB,LB];refine⟨h.nk,by simp,λa ha b hb z=>?_⟩;obtain⟨t,ht,rfl⟩:=xA.mp ha;rw[gA.mp hb] at z;refine hk ?_;show _∈(yD tks).map (·.1);unfold yD;rw[HB];exact xA.mpr ⟨t,ht,by show (Sum.inl t.n:Key)=_;rw[z]⟩
 ·rcases rA.mp ht with q|q
  ·exact h.np t q
  ·rw[gA.mp q];obtain⟨dx0,e0⟩:=h.me;obtain⟨dx1,e1⟩:=id h.sh;exact⟨(λz=>by rw[<-z,hn] at e0;cases e0),(λz=>by rw[<-z,hn] at e1;cases e1)⟩
inductive pc (A:QD) (vs:List V) (H:Hp) (Q:VK) (E:XK):Prop where
 |mk (z:Hz) (l f g:Int) (tks:List Tk) (bk:Kvs) (n:Int) (_:vs=[.ref z.p,.int n]) (_:xD A H z l f g tks bk) (_:tks.length < 1000) (_:((Sum.inl n∉cD (yD tks)/\E (.ref A.Ag) none H)\/∃t∈tks,t.n=n/\∀(k:Nat) (p:Addr) (H':Hp),DH (cD (yD tks)) k->xD A H' z l f g (tks++[⟨k,p,t.rs⟩]) bk->H p=none->Kd z.td H H'->Q (.int k) H')):pc A vs H Q E
noncomputable def qc (A:QD):Sp:=pc A
theorem ZL (T:AD K mg A):TC P w K mg base A.Af "fork" 4 ["self","task"] [] (qc A):=by
 have As:=@uH P w K mg base A T;have Bl:=@uW P w K mg base A T;have Gq:=@am P w K mg base A T;refine T.Lj.have u9 (λvs H Q E z=>?_) ?_
 ·obtain⟨z,l,f,g,tks,bk,n,rfl,_⟩:=z;rfl
 ·intro f cdv A' outer s H vs Q E hr z;obtain⟨z,l,f',g,tks,bk,n,rfl,hS,hl,q⟩:=z;obtain⟨dx,h1⟩:=hS.me;have hlen:(yD tks).length=tks.length:=by unfold yD;rw[dA]
  refine⟨_,(NC (uE (TD (nC 0) T.Ah As (hr.mono (by decide)) KC (pC (nC 1) uC)))
   (NC (sD (i:=2) u9.nd rfl (Or.inl rfl) (lD Bl (hr.mono (by decide)) KC (pC (HE (nC 0) rfl) uC)))
   (NC (QI (vE hr) (HE (nC 0) rfl) (nC 2) (YN (hG (vE hr) (HE (nC 0) rfl) (nC 1) (λο ο=>rfl)) T.Ai Gq (hr.mono (by decide)) KC) rfl)
   (EC (YC (nC 2)))))),?_⟩
  unfold sp_least_free xb QL aF ND;rfl';simp only[h1];rfl';refine⟨wF ∅,z,rfl,l,f',g,tks,bk,hS,?_⟩;rcases q with ⟨h,q⟩|⟨t,ht,hn,q⟩
  ·exact .inr ⟨h,q⟩
  subst hn;obtain⟨t',ht',hn',hv⟩:=PL (cK ht) hS.nk;obtain rfl:t'=t:=EH hS.nk ht' ht hn';obtain⟨a,hA,ho,hll⟩:=hS.st t' ht;obtain⟨dx2,vs2,e1,e2,e3⟩:=id hA;refine .inl ⟨cK ht,T.Ah,T.Aq,_,UG,z.td,rfl,_,hS.t,λk hk=>⟨T.Ah,T.Aq,_,UG,z.td,rfl,_,.inl ⟨_,Sum.inl t'.n,.inl hS.t,rfl,hv.symm⟩,t'.p,rfl,dx2,_,e1,tF ∅,t'.p,rfl,a,t'.rs,hA,λp' a' H1 s1 hp' hA'=>?_⟩⟩;have hz:=PySem.sizeLine_eq;refine⟨_,dx,_,s1 _ _ h1,T.Ah,T.Aq,_,UG,z.td,rfl,_,.inl ⟨_,Sum.inl (k:Int),s1 _ _ hS.t,rfl,⋯,rfl⟩,?_⟩;have e:ED (yD tks) (Sum.inl (k:Int)) (.ref p')=yD (tks++[⟨k,p',t'.rs⟩]):=by
   rw[cN hk.1];unfold yD;rw[KA];rfl
  rw[e];exact q k p' _ hk (hS.moreR s1 hp' ⟨a',hA',ho,hll⟩ hk.1) hp' ((Kd.of s1).trans cG)
inductive rc (A:QD) (vs:List V) (H:Hp) (Q:VK) (E:XK):Prop where
 |mk (z:Hz) (l f g:Int) (tks:List Tk) (bk:Kvs) (n:Int) (_:vs=[.ref z.p,.int n]) (_:xD A H z l f g tks bk) (_:tks.length<=1000) (_:((Sum.inl n∉cD bk/\E (.ref A.Aj) none H)\/(Sum.inl n∈cD bk/\(∃t∈tks,t.rs.any (jD n)=true)/\∀H',vC H H'->E (.ref A.Am) none H')\/(Sum.inl n∈cD bk/\(∀t∈tks,t.rs.any (jD n)=false)/\∀H',xD A H' z l f g tks (nD bk (Sum.inl n))->Kd z.bd H H'->Q .non H'))):rc A vs H Q E
noncomputable def uc (A:QD):Sp:=rc A
theorem aM (T:AD K mg A):TC P w K mg base A.Af "drop_bank" 2 ["self","bank"] [] (uc A):=by
 have A9:=@RL P w K mg base A T;have Fr:=@IL P w K mg base A T;refine T.Gu.have ak (λvs H Q E z=>?_) ?_
 ·obtain⟨z,l,f,g,tk,bk,n,rfl,_⟩:=z;rfl
 ·intro f cdv A' outer s H vs Q E hr z;obtain⟨z,l,f',g,tks,bk,n,rfl,hS,hln,q⟩:=z;obtain⟨dx,h1⟩:=hS.me;refine⟨_,(NC (uE (TD (nC 0) T.Ah A9 (hr.mono (by decide)) KC (pC (nC 1) uC)))
   (NC (eD (xE (SD (i7 rfl) rfl T.Qz ∅ (pC (xi (mO rfl (nU (mU (HE (nC 0) rfl))) (x:="stretches") (fs:=["bank"]) (ix:=[1]) rfl rfl (λο ο ο ο ο ο=>(pF (i:=0) (show (["stretches","bank"]:List Str).Nodup by decide+kernel) rfl (Or.inl rfl))) (λο ο ο ο ο ο=>lO) (λο ο ο ο ο ο=>(TD (nC 0) T.Ai Fr (hr.mono (by decide)) RM (pC (nC 1) uC))))) uC))) (EC (BH AH rfl T.Rz (pC wD uC))) fD)
   (EC (uE (XN (HE (nC 0) rfl) (nC 1) ⟨rfl,rfl,rfl,rfl⟩))))),?_⟩
  unfold QS jF cb ZH;rfl';simp only[h1];rfl';refine⟨wF ∅,z,rfl,l,f',g,tks,bk,hS,?_⟩;by_cases hk:Sum.inl n∈cD bk;rotate_left
  ·refine .inr ⟨hk,?_⟩;rcases q with ⟨_,q⟩|⟨h,_⟩|⟨h,_⟩
   ·exact q
   ·exact absurd h hk
   ·exact absurd h hk
  refine .inl ⟨hk,z.td,(λo u e=>?_),T.Ah,T.Aq,_,UG,z.td,rfl,_,hS.t,λv hv=>⟨z.td,rfl,yD tks,(dD LC hv) _ _ hS.t,λo D hD=>?_⟩⟩
  ·have e:H z.td=some (.frz o u):=e;rw[hS.t] at e;cases e
  have b1:=dD (o:=bF v z.td) (LC (H:=H)) hv;have hk2:∀b u,H b=some u->b≠z.td->yC (yC H v (bF v z.td)) z.td (.frz o (.dK (yD tks))) b=some u:=λb u h hb=>by rw[WC hb];exact b1 _ _ h
  have ha2:yC (yC H v (bF v z.td)) z.td (.frz o (.dK (yD tks))) z.td=some (.frz o (.dK (yD tks))):=SC;generalize yC (yC H v (bF v z.td)) z.td (.frz o (.dK (yD tks)))=H2 at *;have hDa:D≠z.td:=λz=>by rw[z,ha2] at hD;cases hD
  have hD0:H D=none:=by
   cases e:H D with
   |none=>rfl
   |some u=>rw[hk2 D u e hDa] at hD;cases hD
  have hlen:(yD tks).length=tks.length:=by unfold yD;rw[dA]
  refine mi (λi ys σ H'=>∃v0,σ=[v0,some (.int n)]/\Kd z.td H H'/\H' z.td=some (.frz o (.dK (yD tks)))/\ys=((tks.take i).map λt=>t.rs.any (jD n)).map V.bl/\H' D=some (.lst ys)) ⟨_,rfl,λb u h hb=>?_,?_,rfl,SC⟩ (λi ys σ H' _ ⟨_,_,_,e,_⟩=>e) (λi k x ys σ H' hi=>?_) (λys σ H'=>?_)
  ·rw[WC (AE h hD0)];exact hk2 b u h hb
  ·rw[WC (Ne.symm hDa)];exact ha2
  ·rintro⟨v0,rfl,hkd,ha,rfl,hD'⟩;unfold yD at hi;rw[UA] at hi;obtain⟨t,hti,e⟩:=HA.mp hi;cases e;have hil:=(LA.mp hti).1;have ht:=fB hti;obtain⟨a2,hA,ho,hl⟩:=(hS.st t ht).kd hS.t hkd;obtain⟨dx2,vs2,g1,g2,g3⟩:=id hA;have etk:tks.take (i+1)=tks.take i++[t]:=by rw[xB,hti];rfl
   rfl';refine⟨dx2,_,g1,tF ∅,a2,t.rs,hA,⋯,λH3 s3=>⟨s3 _ _ hD',by rw[dA,dA,NA];omega,λb u h hb=>?_,?_,?_⟩⟩
   ·rw[WC (AE h hD0)];exact s3 _ _ (hkd _ _ h hb)
   ·rw[WC (Ne.symm hDa)];exact s3 _ _ ha
   ·rw[etk,KA,KA];rfl
  ·rintro⟨v0,rfl,hkd,ha,rfl,hD'⟩;rw[hlen,vB] at hD';have hk4:vC H (yC H' z.td (.dK (yD tks))):=λc u h=>by
    by_cases hc:c=z.td
    ·rw[hc,SC,<-hS.t,<-h,hc]
    ·rw[WC hc];exact hkd _ _ h hc
   rw[kU ha];have hD4:yC H' z.td (.dK (yD tks)) D=some (.lst ((tks.map λt=>t.rs.any (jD n)).map V.bl)):=by rw[WC hDa];exact hD'
   generalize yC H' z.td (.dK (yD tks))=H4 at *;refine⟨tks.map λt=>t.rs.any (jD n),aD.of hD4,?_⟩;have eany:(tks.map λt=>t.rs.any (jD n)).any id=true↔∃t∈tks,t.rs.any (jD n)=true:=by
    rw[List.any_map,List.any_eq_true]
    rfl
   rcases q with ⟨h,_⟩|⟨_,h,q⟩|⟨_,h,q⟩
   ·exact absurd hk h
   ·rw[eany.mpr h];refine qD ?_;exact q _ hk4
   ·have e:(tks.map λt=>t.rs.any (jD n)).any id=false:=by
     rw[JB];intro z;obtain⟨t,ht,e⟩:=eany.mp z;rw[h t ht] at e;cases e
    rw[e];have hS4:=hS.same hk4;obtain⟨v,hv⟩:=eP hk;exact CC ⟨_,dx,_,hk4 _ _ h1,T.Ah,T.Ax,_,ML,z.bd,rfl,.inl ⟨bk,.inl hS4.b⟩,bk,hS4.b,Sum.inl n,rfl,v,hv,q _ (hS4.bank λkv hkv=>hS.vb kv (rh hkv)) ((Kd.of hk4).trans cG)⟩
noncomputable def vc (ns ms:List Int):Prop:=List.Perm ms ns/\ms.Pairwise (·<=·)
inductive gK (A:QD) (vs:List V) (H:Hp) (Q:VK) (E:XK):Prop where
 |mk (z:Hz) (l f g:Int) (tks:List Tk) (bk:Kvs) (_:vs=[.ref z.p]) (_:xD A H z l f g tks bk) (_:eF (cD (yD tks))) (_:tks.length < 64) (_:∀l ms,H l=none->vc ((cD (yD tks)).map kI) ms->Q (.ref l) (yC H l (.lst (ms.map V.int)))):gK A vs H Q E
noncomputable def jP (A:QD):Sp:=gK A
theorem xW (T:AD K mg A):TC P w K mg base A.Af "task_list" 1 ["self"] [] (jP A):=by
 refine T.Gv.have pk (λvs H Q E z=>?_) ?_
 ·obtain⟨z,l,f,g,tk,bk,rfl,_⟩:=z;rfl
 ·intro f cdv A' outer s H vs Q E hr z;obtain⟨z,l,f',g,tk,bk,rfl,hS,hi,hl,q⟩:=z;obtain⟨dx,h1⟩:=hS.me;refine⟨_,(EC (YC (SD (cI rfl) rfl T.Bb gB (pC (HE (nC 0) rfl) uC)))),?_⟩;rfl';simp only[h1];rfl';exact⟨T.Ah,T.Aq,_,UG,z.td,rfl,yD tk,.inl hS.t,(cD (yD tk)).map kI,hi.ns,λl ms h1 h2 h3=>q l ms h1 ⟨h2,h3⟩⟩
inductive iK (A:QD) (vs:List V) (H:Hp) (Q:VK) (E:XK):Prop where
 |mk (z:Hz) (l f g:Int) (tks:List Tk) (bk:Kvs) (_:vs=[.ref z.p]) (_:xD A H z l f g tks bk) (_:eF (cD bk)) (_:bk.length < 64) (_:∀l ms,H l=none->vc ((cD bk).map kI) ms->Q (.ref l) (yC H l (.lst (ms.map V.int)))):iK A vs H Q E
noncomputable def kP (A:QD):Sp:=iK A
theorem yW (T:AD K mg A):TC P w K mg base A.Af "bank_list" 1 ["self"] [] (kP A):=by
 refine T.Gw.have qk (λvs H Q E z=>?_) ?_
 ·obtain⟨z,l,f,g,tk,bk,rfl,_⟩:=z;rfl
 ·intro f cdv A' outer s H vs Q E hr z;obtain⟨z,l,f',g,tk,bk,rfl,hS,hi,hl,q⟩:=z;obtain⟨dx,h1⟩:=hS.me;refine⟨_,(EC (YC (SD (cI rfl) rfl T.Bb gB (pC (HE (nC 0) rfl) uC)))),?_⟩;rfl';simp only[h1];rfl';exact⟨T.Ah,T.Ax,_,ML,z.bd,rfl,bk,.inl hS.b,(cD bk).map kI,hi.ns,λl ms h1 h2 h3=>q l ms h1 ⟨h2,h3⟩⟩
inductive jK (A:QD) (vs:List V) (H:Hp) (Q:VK) (E:XK):Prop where
 |mk (z:Hz) (l f g:Int) (tks:List Tk) (bk:Kvs) (n:Int) (_:vs=[.ref z.p,.int n]) (_:xD A H z l f g tks bk) (_:((∃v,JC bk (Sum.inl n)=some v/\Q v H)\/(Sum.inl n∉cD bk/\E (.ref A.Aj) none H))):jK A vs H Q E
noncomputable def lP (A:QD):Sp:=jK A
theorem zW (T:AD K mg A):TC P w K mg base A.Af "bank_size" 2 ["self","bank"] [] (lP A):=by
 have A9:=@RL P w K mg base A T;refine T.Gx.have uk (λvs H Q E z=>?_) ?_
 ·obtain⟨z,l,f,g,tk,bk,n,rfl,_⟩:=z;rfl
 ·intro f cdv A' outer s H vs Q E hr z;obtain⟨z,l,f',g,tk,bk,n,rfl,hS,q⟩:=z;obtain⟨dx,h1⟩:=hS.me;refine⟨_,(NC (uE (TD (nC 0) T.Ah A9 (hr.mono (by decide)) KC (pC (nC 1) uC)))
   (EC (YC (hG (vE hr) (HE (nC 0) rfl) (nC 1) (λο ο=>rfl))))),?_⟩
  unfold QS ND;rfl';simp only[h1];rfl';refine⟨wF ∅,z,rfl,l,f',g,tk,bk,hS,?_⟩;rcases q with ⟨v,hv,q⟩|⟨h,q⟩
  ·exact .inl ⟨uJ hv,T.Ah,T.Ax,_,ML,z.bd,rfl,_,.inl ⟨bk,Sum.inl n,.inl hS.b,rfl,hv.symm⟩,q⟩
  ·exact .inr ⟨h,q⟩
inductive kK (A:QD) (vs:List V) (H:Hp) (Q:VK) (E:XK):Prop where
 |mk (z:Hz) (l f g:Int) (tks:List Tk) (bk:Kvs) (n:Int) (_:vs=[.ref z.p,.int n]) (_:xD A H z l f g tks bk) (_:((Sum.inl n∉cD (yD tks)/\E (.ref A.Ag) none H)\/∃t∈tks,t.n=n/\∀b us,H b=none->xC (yC H b (.lst us)) us t.rs->Q (.ref b) (yC H b (.lst us)))):kK A vs H Q E
noncomputable def mP (A:QD):Sp:=kK A
theorem bM (T:AD K mg A):TC P w K mg base A.Af "stretches_of" 2 ["self","task"] [] (mP A):=by
 have As:=@uH P w K mg base A T;have I0:=@Ul P w K mg base A T;refine T.Dy.have vk (λvs H Q E z=>?_) ?_
 ·obtain⟨z,l,f,g,tk,bk,n,rfl,_⟩:=z;rfl
 ·intro f cdv A' outer s H vs Q E hr z;obtain⟨z,l,f',g,tk,bk,n,rfl,hS,q⟩:=z;obtain⟨dx,h1⟩:=hS.me;refine⟨_,(NC (uE (TD (nC 0) T.Ah As (hr.mono (by decide)) KC (pC (nC 1) uC)))
   (EC (YC (YN (hG (vE hr) (HE (nC 0) rfl) (nC 1) (λο ο=>rfl)) T.Ai I0 (hr.mono (by decide)) KC)))),?_⟩
  unfold QL ND db;rfl';simp only[h1];rfl';refine⟨wF ∅,z,rfl,l,f',g,tk,bk,hS,?_⟩;rcases q with ⟨h,q⟩|⟨t,ht,hn,q⟩
  ·exact .inr ⟨h,q⟩
  subst hn;obtain⟨t',ht',hn',hv⟩:=PL (cK ht) hS.nk;obtain rfl:t'=t:=EH hS.nk ht' ht hn';obtain⟨a,hA,ho,hl⟩:=hS.st t' ht;obtain⟨dx2,vs2,e1,e2,e3⟩:=id hA;exact .inl ⟨cK ht,T.Ah,T.Aq,_,UG,z.td,rfl,_,.inl ⟨_,Sum.inl t'.n,.inl hS.t,rfl,hv.symm⟩,t'.p,rfl,dx2,_,e1,tF ∅,t'.p,rfl,a,t'.rs,hA,q⟩
noncomputable def jm:V->Bool
 |.non=>true
 |.bl _=>true
 |.int _=>true
 |.str _=>true
 |_=>false
mutual
noncomputable def yE (H:Hp):Dv->V->Prop
 |.leaf v,x=>x=v/\jm v=true
 |.seq t ds,x=>∃a xs,x=.ref a/\H a=some (if t=true then .tup xs else .lst xs)/\ds.length < 16777216/\WD H ds xs
noncomputable def WD (H:Hp):List Dv->List V->Prop
 |[],xs=>xs=[]
 |d::ds,xs=>∃x r,xs=x::r/\yE H d x/\WD H ds r
end
theorem WD.len {H:Hp}:∀{ds:List Dv} {xs:List V},WD H ds xs->xs.length=ds.length
 |[],xs,h=>by unfold WD at h;subst h;rfl
 |d::ds,xs,h=>by
  unfold WD at h;obtain⟨x,r,rfl,_,h⟩:=h;simp[h.len]
theorem WD.at {H:Hp}:∀{ds:List Dv} {xs:List V} {i:Nat} {d:Dv},WD H ds xs->ds[i]?=some d->∃x,xs[i]?=some x/\yE H d x
 |[],_,_,_,_,h=>by simp at h
 |d::ds,xs,0,e,h,hi=>by
  unfold WD at h;obtain⟨x,r,rfl,hx,_⟩:=h;simp at hi;subst hi;exact⟨x,rfl,hx⟩
 |d::ds,xs,i+1,e,h,hi=>by
  unfold WD at h;obtain⟨x,r,rfl,_,h⟩:=h;simp at hi;obtain⟨y,hy,hl⟩:=h.at hi;exact⟨y,by simpa using hy,hl⟩
theorem wc:∀{ds:List Dv} {i:Nat} {d:Dv},ds[i]?=some d->FD d<=QC ds
 |[],_,_,h=>by simp at h
 |d::ds,0,e,h=>by
  simp at h;subst h;rw[QC];exact Nat.le_max_left ..
 |d::ds,i+1,e,h=>by
  simp at h;rw[QC];exact YA (wc h) (Nat.le_max_right ..)
mutual
theorem yE.same {H H':Hp}:∀{d:Dv} {x:V},yE H d x->vC H H'->yE H' d x
 |.leaf v,x,h,_=>by unfold yE at h ⊢;exact h
 |.seq t ds,x,h,s=>by
  unfold yE at h ⊢;obtain⟨a,xs,e,ha,hz,hl⟩:=h;exact⟨a,xs,e,s _ _ ha,hz,hl.same s⟩
theorem WD.same {H H':Hp}:∀{ds:List Dv} {xs:List V},WD H ds xs->vC H H'->WD H' ds xs
 |[],xs,h,_=>by unfold WD at h ⊢;exact h
 |d::ds,xs,h,s=>by
  unfold WD at h ⊢;obtain⟨x,r,e,hx,hl⟩:=h;exact⟨x,r,e,hx.same s,hl.same s⟩
end
noncomputable def xc:Nat->Sp
 |0=>λο ο ο ο=>False
 |n+1=>λvs H Q ο=>∃(x y:V) (d:Dv),vs=[x,y]/\yE H d x/\yE H d y/\FD d<=n/\∀H',vC H H'->Q (.bl true) H'
theorem lK {H:Hp} {a:Addr} {o:HO} {n:String} (h:H a=some o) (e:(sF (some o) == n || (sF (some o) == "bool"&&n == "int"))=false):FF n H (.ref a)=false:=by
 unfold FF;rw[show kd H (.ref a)=sF (H a) from rfl,h];exact e
theorem yc (T:AD K mg A):∀n,KD P w K mg base "_law_like" (n+1) ["_law_found","_law_due_here"] [] (xc n):=by
 intro n
 induction n with
 |zero=>exact T.Lg.have EV (λvs H Q E z=>z.elim) (λο ο ο ο ο ο ο ο ο ο z=>z.elim)
 |succ n ih=>
  have Bd:=ih;refine T.Lg.have EV (λvs H Q E z=>?_) ?_
  ·obtain⟨x,y,d,rfl,_⟩:=z;rfl
  ·intro f cdv A' outer s H vs Q E hr z;obtain⟨x,y,d,rfl,hx,hy,hd,q⟩:=z;refine⟨_,(NC (eD (tD sI (nC 1) XE (rC _)) (EC (YC (GG sI (nC 0) XE (rC _)))) fD)
   (NC (eD (xE (SD mH rfl T.Ao sA (pC (nC 1) (pC (kH (n:="bool") rfl T.Jd PyProof.Rows.boot_bool) uC)))) (EC (YC (cH (SD mH rfl T.Ao sA (pC (nC 0) (pC (kH (n:="bool") rfl T.Jd PyProof.Rows.boot_bool) uC))) (pI (GG pE (nC 0) (nC 1) (rC _)))))) fD)
   (NC (eD (xE (SD mH rfl T.Ao sA (pC (nC 1) (pC (kH (n:="int") rfl T.Oe PyProof.Rows.boot_int) uC)))) (EC (YC (cH (SD mH rfl T.Ao sA (pC (nC 0) (pC (kH (n:="int") rfl T.Oe PyProof.Rows.boot_int) uC))) (cH (i3 (SD mH rfl T.Ao sA (pC (nC 0) (pC (kH (n:="bool") rfl T.Jd PyProof.Rows.boot_bool) uC)))) (pI (GG pE (nC 0) (nC 1) (rC _))))))) fD)
   (NC (eD (xE (SD mH rfl T.Ao sA (pC (nC 1) (pC (kH (n:="str") rfl T.Q2 PyProof.Rows.boot_str) uC)))) (EC (YC (cH (SD mH rfl T.Ao sA (pC (nC 0) (pC (kH (n:="str") rfl T.Q2 PyProof.Rows.boot_str) uC))) (pI (GG pE (nC 0) (nC 1) (rC _)))))) fD)
   (OD (eD (PW.pt (GH (xE (SD mH rfl T.Ao sA (pC (nC 1) (pC (kH (n:="list") rfl T.Je PyProof.Rows.boot_list) uC)))) (oI (ZF (xE (SD mH rfl T.Ao sA (pC (nC 0) (pC (kH (n:="list") rfl T.Je PyProof.Rows.boot_list) uC)))))))) (EC (YC oG)) fD)
   (OD (eD (PW.pt (GH (xE (SD mH rfl T.Ao sA (pC (nC 1) (pC (kH (n:="tuple") rfl T.Ob PyProof.Rows.boot_tuple) uC)))) (oI (ZF (xE (SD mH rfl T.Ao sA (pC (nC 0) (pC (kH (n:="tuple") rfl T.Ob PyProof.Rows.boot_tuple) uC)))))))) (EC (YC oG)) fD)
   (NC (eD (tD ER (SD KI rfl T.Ba PySem.boot_len (pC (nC 0) uC)) (SD KI rfl T.Ba PySem.boot_len (pC (nC 1) uC)) (rC _)) (EC (YC oG)) fD)
   (NC (DG WA rfl (BM rfl T.B4 (pC (SD KI rfl T.Ba PySem.boot_len (pC (nC 1) uC)) uC)) (pF (i:=2) EV.nd rfl (Or.inl rfl)) (EC (eD (ZF (xE (lD Bd (hr.mono ⋯) KC (pC (MC t7 (nC 0) (nC 2) (λο ο=>rfl)) (pC (MC t7 (nC 1) (nC 2) (λο ο=>rfl)) uC))))) (EC (YC oG)) fD)))
   (EC (YC oG)))))))))),?_⟩
   cases d with
   |leaf v=>
    unfold yE at hx hy;obtain⟨ex,hv⟩:=hx;obtain⟨ey,_⟩:=hy;subst ex;subst ey;cases y with
    |non=>
     rfl';exact q _ LC
    |bl b=>
     rfl';rw[aA (λz=>nomatch z)];exact⟨by decide,qD ⟨by decide,qD (q _ LC)⟩⟩
    |int i=>
     rfl';rw[aA (λz=>nomatch z)];exact⟨by decide,CC ⟨by decide,qD ⟨by decide,qD ⟨by decide,qD (q _ LC)⟩⟩⟩⟩
    |str t=>
     rfl';rw[aA (λz=>nomatch z)];exact⟨by decide,CC ⟨by decide,CC ⟨by decide,qD ⟨by decide,qD (q _ LC)⟩⟩⟩⟩
    |_=>cases hv
   |seq t ds=>
    unfold yE at hx hy;obtain⟨a,xs,rfl,ha,hzl,hxs⟩:=hx;obtain⟨b,ys,rfl,hb,_,hys⟩:=hy;have hlx:=hxs.len;have hly:=hys.len;have hdl:QC ds+1<=n:=by rw[FD] at hd;exact hd
    have step:∀(i:Nat) (H':Hp) (Q':VK) (E':XK),i < ds.length->vC H H'->(∀H'',vC H H''->Q' (.bl true) H'')->∃x y,xs[i]?=some x/\ys[i]?=some y/\xc n [x,y] H' Q' E':=λi H' Q' E' hi s1 hq=>by
     obtain⟨x,hx1,hx2⟩:=hxs.at (zA hi);obtain⟨y,hy1,hy2⟩:=hys.at (zA hi);refine⟨x,y,hx1,hy1,?_⟩;cases n with
     |zero=>omega
     |succ n=>exact⟨x,y,ds[i],rfl,hx2.same s1,hy2.same s1,by have:=wc (zA hi);omega,λH'' s2=>hq _ (s1.trans s2)⟩
    rfl';rw[aA (λz=>nomatch z)];cases t with
    |false=>
     have ha:H a=some (.lst xs):=ha;have hb:H b=some (.lst ys):=hb;rw[lK hb rfl,lK hb rfl,lK hb rfl];refine⟨by decide,OM hb,CC ⟨by decide,OM hb,CC ⟨by decide,OM hb,CC ⟨λσ H'=>σ=[some (.ref a),some (.ref b),none]/\H'=H,?_,λσ' H'=>?_⟩⟩⟩⟩
     ·rfl';rw[m6 hb,m6 ha];exact⟨by decide,OM hb,qD ⟨by decide,OM ha,CC trivial⟩⟩
     rintro⟨rfl,rfl⟩;refine⟨λσ H''=>σ=[some (.ref a),some (.ref b),none]/\H''=H',?_,λσ' H''=>?_⟩
     ·rfl';rw[lK hb rfl];exact⟨by decide,OM hb,CC (CC trivial)⟩
     rintro⟨rfl,rfl⟩;rfl';refine⟨_,.inl ⟨_,aD.of ha,rfl⟩,_,.inl ⟨_,aD.of hb,rfl⟩,?_⟩;rw[kA ⋯];refine CC ⟨_,.inl ⟨_,aD.of hb,rfl⟩,⋯,⋯,?_⟩;refine QM (λi σ H1=>∃v2,σ=[some (.ref a),some (.ref b),v2]/\vC H'' H1) ⟨_,rfl,LC⟩ (λi σ H1 hi=>?_) (λσ H1=>?_)
     ·rintro⟨v2,rfl,s1⟩;rfl';obtain⟨x,y,hx1,hy1,hsp⟩:=step i H1 (λx H2=>∃c,x=V.bl c/\if (!c)=true then Q (V.bl false) H2 else vC H'' H2) (λc x H'=>E c none H') ⋯ s1 (λH'' s2=>⟨true,rfl,CC s2⟩);exact .inl ⟨_,aD.of (s1 _ _ ha),x,by rw[Int.zero_add];exact JD hx1,.inl ⟨_,aD.of (s1 _ _ hb),y,by rw[Int.zero_add];exact JD hy1,hsp⟩⟩
     ·rintro⟨v2,rfl,s1⟩;rfl';exact q _ s1
    |true=>
     have ha:H a=some (.tup xs):=ha;have hb:H b=some (.tup ys):=hb;rw[lK hb rfl,lK hb rfl,lK hb rfl];refine⟨by decide,PM hb,CC ⟨by decide,PM hb,CC ⟨by decide,PM hb,CC ⟨λσ H'=>σ=[some (.ref a),some (.ref b),none]/\H'=H,?_,λσ' H'=>?_⟩⟩⟩⟩
     ·rfl';rw[lK hb rfl];exact⟨by decide,PM hb,CC (CC trivial)⟩
     rintro⟨rfl,rfl⟩;refine⟨λσ H''=>σ=[some (.ref a),some (.ref b),none]/\H''=H',?_,λσ' H''=>?_⟩
     ·rfl';rw[j6 hb,j6 ha];exact⟨by decide,PM hb,qD ⟨by decide,PM ha,CC trivial⟩⟩
     rintro⟨rfl,rfl⟩;rfl';refine⟨_,.inr ⟨_,OC.of ha,rfl⟩,_,.inr ⟨_,OC.of hb,rfl⟩,?_⟩;rw[kA ⋯];refine CC ⟨_,.inr ⟨_,OC.of hb,rfl⟩,⋯,⋯,?_⟩;refine QM (λi σ H1=>∃v2,σ=[some (.ref a),some (.ref b),v2]/\vC H'' H1) ⟨_,rfl,LC⟩ (λi σ H1 hi=>?_) (λσ H1=>?_)
     ·rintro⟨v2,rfl,s1⟩;rfl';obtain⟨x,y,hx1,hy1,hsp⟩:=step i H1 (λx H2=>∃c,x=V.bl c/\if (!c)=true then Q (V.bl false) H2 else vC H'' H2) (λc x H'=>E c none H') ⋯ s1 (λH'' s2=>⟨true,rfl,CC s2⟩);exact .inr ⟨_,OC.of (s1 _ _ ha),x,by rw[Int.zero_add];exact JD hx1,.inr ⟨_,OC.of (s1 _ _ hb),y,by rw[Int.zero_add];exact JD hy1,hsp⟩⟩
     ·rintro⟨v2,rfl,s1⟩;rfl';exact q _ s1
noncomputable def WF:Option (Int×Int)->Dv
 |none=>.leaf .non
 |some (b,k)=>.seq true [.leaf (.int b),.leaf (.int k)]
noncomputable def xF (r:Rn):Dv:=.seq true [.leaf (.int r.f),.leaf (.int r.m),.leaf (.int r.r),WF r.t]
theorem Tc {i:Int}:GM (.int i) (.int i)=true:=t6 rfl
theorem km (t:Option (Int×Int)):dE (WF t) (WF t)=true/\eE (WF t) (WF t)=true/\FD (WF t)<=1:=by
 cases t with
 |none=>exact⟨by simp[WF,dE],by simp[WF,eE,GM],by simp[WF,FD]⟩
 |some t=>
  obtain⟨b,k⟩:=t;refine⟨by simp[WF,dE,rD],by simp[WF,eE,mD,Tc],by simp[WF,FD,QC]⟩
theorem lm (r:Rn):dE (xF r) (xF r)=true/\eE (xF r) (xF r)=true/\FD (xF r)<=2:=by
 obtain⟨h1,h2,h3⟩:=km r.t;refine⟨by simp[xF,dE,rD,h1],by simp[xF,eE,mD,Tc,h2],?_⟩;simp only[xF,FD,QC];omega
theorem AW:∀rs:List Rn,rD (rs.map xF) (rs.map xF)=true/\mD (rs.map xF) (rs.map xF)=true/\QC (rs.map xF)<=2
 |[]=>⟨by simp[rD],by simp[mD],by simp[QC]⟩
 |r::rs=>by
  obtain⟨h1,h2,h3⟩:=lm r;obtain⟨g1,g2,g3⟩:=AW rs;refine⟨by simp[rD,h1,g1],by simp[mD,h2,g2],?_⟩;simp only[QA,QC];omega
theorem om {H:Hp} {v:V}:∀{t:Option (Int×Int)},vD H v t->cE K H (WF t) v
 |none,h=>⟨h,rfl⟩
 |some (b,k),⟨a,e,h⟩=>⟨a,_,e,OC.of h,_,_,rfl,⟨rfl,rfl⟩,_,_,rfl,⟨rfl,rfl⟩,rfl⟩
theorem qm {H:Hp} {v:V} {r:Rn} (h:bD H v r):cE K H (xF r) v:=by
 obtain⟨a,tv,e,h1,h2⟩:=h;exact⟨a,_,e,OC.of h1,_,_,rfl,⟨rfl,rfl⟩,_,_,rfl,⟨rfl,rfl⟩,_,_,rfl,⟨rfl,rfl⟩,_,_,rfl,om h2,rfl⟩
theorem Uc {H:Hp}:∀{vs:List V} {rs:List Rn},xC H vs rs->uD K H (rs.map xF) vs
 |_,_,.nil=>rfl
 |_,_,.cons r t=>⟨_,_,rfl,qm r,Uc t⟩
inductive Wd (A:QD):Str->Addr->Prop
 |NoTask:Wd A "NoTask" A.Ag
 |OutOfRoom:Wd A "OutOfRoom" A.Ad
 |BadRights:Wd A "BadRights" A.Ab
 |NoBank:Wd A "NoBank" A.Aj
 |OutOfBank:Wd A "OutOfBank" A.Ae
 |Taken:Wd A "Taken" A.Ak
 |NotMapped:Wd A "NotMapped" A.Ac
 |Busy:Wd A "Busy" A.Am
noncomputable def aW (s:Str) (j:Nat):Str:=if ((["NoTask","OutOfRoom","BadRights","NoBank","OutOfBank","Taken","NotMapped","Busy"]:List Str).take j).contains s then Str.ofString ""++s else Str.ofString ""
noncomputable def BW (A:QD):Sp:=λvs H Q ο=>∃(ea C:Addr) (s:Str),vs=[.ref ea]/\H ea=some (rF ea C)/\Wd A s C/\Q (.str s) H
theorem Vc (T:AD K mg A):WH P w K mg base "_law_word" 1 ["_law_e"] (BW A):=by
 refine T.Pt.haveH yI (λvs H Q E z=>?_) ?_
 ·obtain⟨ea,C,s,rfl,_⟩:=z;rfl
 ·intro f cdv A' outer s H vs Q E hr z;obtain⟨ea,C,s',rfl,he,hW,q⟩:=z;refine⟨_,(NC (sD (i:=1) yI.nd rfl (Or.inl rfl) wD)
   (OD (eD (xE (SD wJ rfl T.Ao sA (pC (nC 0) (pC (PH rfl T.Pz) uC)))) (EC (sD (i:=1) yI.nd rfl (Or.inl rfl) (ZC IJ (nC 1) wD))) fD)
   (OD (eD (xE (SD wJ rfl T.Ao sA (pC (nC 0) (pC (PH rfl T.Np) uC)))) (EC (sD (i:=1) yI.nd rfl (Or.inl rfl) (ZC IJ (nC 1) wD))) fD)
   (OD (eD (xE (SD wJ rfl T.Ao sA (pC (nC 0) (pC (PH rfl T.Nr) uC)))) (EC (sD (i:=1) yI.nd rfl (Or.inl rfl) (ZC IJ (nC 1) wD))) fD)
   (OD (eD (xE (SD wJ rfl T.Ao sA (pC (nC 0) (pC (PH rfl T.P1) uC)))) (EC (sD (i:=1) yI.nd rfl (Or.inl rfl) (ZC IJ (nC 1) wD))) fD)
   (OD (eD (xE (SD wJ rfl T.Ao sA (pC (nC 0) (pC (PH rfl T.Nu) uC)))) (EC (sD (i:=1) yI.nd rfl (Or.inl rfl) (ZC IJ (nC 1) wD))) fD)
   (OD (eD (xE (SD wJ rfl T.Ao sA (pC (nC 0) (pC (PH rfl T.Q6) uC)))) (EC (sD (i:=1) yI.nd rfl (Or.inl rfl) (ZC IJ (nC 1) wD))) fD)
   (OD (eD (xE (SD wJ rfl T.Ao sA (pC (nC 0) (pC (PH rfl T.Nv) uC)))) (EC (sD (i:=1) yI.nd rfl (Or.inl rfl) (ZC IJ (nC 1) wD))) fD)
   (OD (eD (xE (SD wJ rfl T.Ao sA (pC (nC 0) (pC (PH rfl T.Ry) uC)))) (EC (sD (i:=1) yI.nd rfl (Or.inl rfl) (ZC IJ (nC 1) wD))) fD)
   (EC (YC (nC 1)))))))))))),?_⟩
  rfl';have e0:Str.ofString ""=aW s' 0:=rfl;rw[e0];refine RC (λσ H'=>σ=[some (.ref ea),some (.str (aW s' 1))]/\H=H') ?_ λU9 D9 hU9 hD9 σ' H'=>?_
  ·rfl';cases hW with
   |NoTask=>exact⟨_,he,T.Bg,true,T.Gz,qD ∅⟩
   |OutOfRoom=>exact⟨_,he,T.A5,false,T.D6,CC ∅⟩
   |BadRights=>exact⟨_,he,T.A6,false,T.D8,CC ∅⟩
   |NoBank=>exact⟨_,he,T.Bh,false,T.G4,CC ∅⟩
   |OutOfBank=>exact⟨_,he,T.A7,false,T.Ef,CC ∅⟩
   |Taken=>exact⟨_,he,T.Bj,false,T.Ij,CC ∅⟩
   |NotMapped=>exact⟨_,he,T.A8,false,T.Eh,CC ∅⟩
   |Busy=>exact⟨_,he,T.Br,false,T.Jk,CC ∅⟩
  rintro⟨rfl,rfl⟩;subst hU9 hD9;refine RC (λσ H'=>σ=[some (.ref ea),some (.str (aW s' 2))]/\H=H') ?_ λU9 D9 hU9 hD9 σ' H'=>?_
  ·rfl';cases hW with
   |NoTask=>exact⟨_,he,T.Bg,false,T.D0,CC ∅⟩
   |OutOfRoom=>exact⟨_,he,T.A5,true,T.Cc,qD ∅⟩
   |BadRights=>exact⟨_,he,T.A6,false,T.Cg,CC ∅⟩
   |NoBank=>exact⟨_,he,T.Bh,false,T.Eb,CC ∅⟩
   |OutOfBank=>exact⟨_,he,T.A7,false,T.Ck,CC ∅⟩
   |Taken=>exact⟨_,he,T.Bj,false,T.Ey,CC ∅⟩
   |NotMapped=>exact⟨_,he,T.A8,false,T.Co,CC ∅⟩
   |Busy=>exact⟨_,he,T.Br,false,T.F4,CC ∅⟩
  rintro⟨rfl,rfl⟩;subst hU9 hD9;refine RC (λσ H'=>σ=[some (.ref ea),some (.str (aW s' 3))]/\H=H') ?_ λU9 D9 hU9 hD9 σ' H'=>?_
  ·rfl';cases hW with
   |NoTask=>exact⟨_,he,T.Bg,false,T.D3,CC ∅⟩
   |OutOfRoom=>exact⟨_,he,T.A5,false,T.Cd,CC ∅⟩
   |BadRights=>exact⟨_,he,T.A6,true,T.Ch,qD ∅⟩
   |NoBank=>exact⟨_,he,T.Bh,false,T.Ec,CC ∅⟩
   |OutOfBank=>exact⟨_,he,T.A7,false,T.Cl,CC ∅⟩
   |Taken=>exact⟨_,he,T.Bj,false,T.Ez,CC ∅⟩
   |NotMapped=>exact⟨_,he,T.A8,false,T.Cp,CC ∅⟩
   |Busy=>exact⟨_,he,T.Br,false,T.F5,CC ∅⟩
  rintro⟨rfl,rfl⟩;subst hU9 hD9;refine RC (λσ H'=>σ=[some (.ref ea),some (.str (aW s' 4))]/\H=H') ?_ λU9 D9 hU9 hD9 σ' H'=>?_
  ·rfl';cases hW with
   |NoTask=>exact⟨_,he,T.Bg,false,T.G3,CC ∅⟩
   |OutOfRoom=>exact⟨_,he,T.A5,false,T.D7,CC ∅⟩
   |BadRights=>exact⟨_,he,T.A6,false,T.Ea,CC ∅⟩
   |NoBank=>exact⟨_,he,T.Bh,true,T.G5,qD ∅⟩
   |OutOfBank=>exact⟨_,he,T.A7,false,T.Eg,CC ∅⟩
   |Taken=>exact⟨_,he,T.Bj,false,T.Ik,CC ∅⟩
   |NotMapped=>exact⟨_,he,T.A8,false,T.Ei,CC ∅⟩
   |Busy=>exact⟨_,he,T.Br,false,T.Jl,CC ∅⟩
  rintro⟨rfl,rfl⟩;subst hU9 hD9;refine RC (λσ H'=>σ=[some (.ref ea),some (.str (aW s' 5))]/\H=H') ?_ λU9 D9 hU9 hD9 σ' H'=>?_
  ·rfl';cases hW with
   |NoTask=>exact⟨_,he,T.Bg,false,T.D4,CC ∅⟩
   |OutOfRoom=>exact⟨_,he,T.A5,false,T.Ce,CC ∅⟩
   |BadRights=>exact⟨_,he,T.A6,false,T.Ci,CC ∅⟩
   |NoBank=>exact⟨_,he,T.Bh,false,T.Ed,CC ∅⟩
   |OutOfBank=>exact⟨_,he,T.A7,true,T.Cm,qD ∅⟩
   |Taken=>exact⟨_,he,T.Bj,false,T.E0,CC ∅⟩
   |NotMapped=>exact⟨_,he,T.A8,false,T.Cq,CC ∅⟩
   |Busy=>exact⟨_,he,T.Br,false,T.F6,CC ∅⟩
  rintro⟨rfl,rfl⟩;subst hU9 hD9;refine RC (λσ H'=>σ=[some (.ref ea),some (.str (aW s' 6))]/\H=H') ?_ λU9 D9 hU9 hD9 σ' H'=>?_
  ·rfl';cases hW with
   |NoTask=>exact⟨_,he,T.Bg,false,T.Ih,CC ∅⟩
   |OutOfRoom=>exact⟨_,he,T.A5,false,T.Ev,CC ∅⟩
   |BadRights=>exact⟨_,he,T.A6,false,T.Ew,CC ∅⟩
   |NoBank=>exact⟨_,he,T.Bh,false,T.Ii,CC ∅⟩
   |OutOfBank=>exact⟨_,he,T.A7,false,T.Ex,CC ∅⟩
   |Taken=>exact⟨_,he,T.Bj,true,T.Jj,qD ∅⟩
   |NotMapped=>exact⟨_,he,T.A8,false,T.E2,CC ∅⟩
   |Busy=>exact⟨_,he,T.Br,false,T.J4,CC ∅⟩
  rintro⟨rfl,rfl⟩;subst hU9 hD9;refine RC (λσ H'=>σ=[some (.ref ea),some (.str (aW s' 7))]/\H=H') ?_ λU9 D9 hU9 hD9 σ' H'=>?_
  ·rfl';cases hW with
   |NoTask=>exact⟨_,he,T.Bg,false,T.D5,CC ∅⟩
   |OutOfRoom=>exact⟨_,he,T.A5,false,T.Cf,CC ∅⟩
   |BadRights=>exact⟨_,he,T.A6,false,T.Cj,CC ∅⟩
   |NoBank=>exact⟨_,he,T.Bh,false,T.Ee,CC ∅⟩
   |OutOfBank=>exact⟨_,he,T.A7,false,T.Cn,CC ∅⟩
   |Taken=>exact⟨_,he,T.Bj,false,T.E1,CC ∅⟩
   |NotMapped=>exact⟨_,he,T.A8,true,T.Cr,qD ∅⟩
   |Busy=>exact⟨_,he,T.Br,false,T.F7,CC ∅⟩
  rintro⟨rfl,rfl⟩;subst hU9 hD9;refine RC (λσ H'=>σ=[some (.ref ea),some (.str (aW s' 8))]/\H=H') ?_ λU9 D9 hU9 hD9 σ' H'=>?_
  ·rfl';cases hW with
   |NoTask=>exact⟨_,he,T.Bg,false,T.Jh,CC ∅⟩
   |OutOfRoom=>exact⟨_,he,T.A5,false,T.F0,CC ∅⟩
   |BadRights=>exact⟨_,he,T.A6,false,T.F1,CC ∅⟩
   |NoBank=>exact⟨_,he,T.Bh,false,T.Ji,CC ∅⟩
   |OutOfBank=>exact⟨_,he,T.A7,false,T.F2,CC ∅⟩
   |Taken=>exact⟨_,he,T.Bj,false,T.J3,CC ∅⟩
   |NotMapped=>exact⟨_,he,T.A8,false,T.F3,CC ∅⟩
   |Busy=>exact⟨_,he,T.Br,true,T.K3,qD ∅⟩
  rintro⟨rfl,rfl⟩;subst hU9 hD9;rfl';have e9:aW s' 8=s':=by cases hW<;>decide+kernel
  rw[e9];exact q
theorem Wd.sub (T:AD K mg A) {s:Str} {N:Addr} (h:Wd A s N):kF K N A.Al:=by
 cases h with
 |NoTask=>exact T.Dr
 |OutOfRoom=>exact T.B6
 |BadRights=>exact T.B7
 |NoBank=>exact T.Ds
 |OutOfBank=>exact T.B8
 |Taken=>exact T.Dz
 |NotMapped=>exact T.B9
 |Busy=>exact T.Eu
inductive Wc (vs:List V) (H:Hp) (Q:VK) (E:XK):Prop where
 |mk (c k m:Int) (_:vs=[.int c,.int k,.int m]) (_:0<=k) (_:k < 100000) (_:0 < m) (_:∀n H',vC H H'->0<=n->n < m->Q (.int n) H'):Wc vs H Q E
noncomputable def sp_mix:Sp:=Wc
theorem SS (T:AD K mg A):KD P w K mg base "_law_mix" 1 ["_law_cell","_law_k","_law_many"] [] sp_mix:=by
 refine T.Q3.have AV (λvs H Q E z=>?_) ?_
 ·obtain⟨c,k,m,rfl,_⟩:=z;rfl
 ·intro f cdv A' outer s H vs Q E hr z;obtain⟨c,k,m,rfl,hk,hk2,hm,q⟩:=z;have q':∀(x:Int) H',vC H H'->Q (.int (x % m)) H':=λx H' s=>q _ H' s (Int.emod_nonneg _ ⋯) (Int.emod_lt_of_pos _ hm);refine⟨_,(NC (eD (tD pE (ZC qF (ZC JH (nC 0) sC) sC) sC (rC _)) (EC (YC (ZC qF (ZC JK (ZC U3 (ZC JH (nC 0) sC) (ZC JI sC (nC 1))) sC) (nC 2)))) fD)
   (@NC _ _ _ _ _ (@sD _ _ 3 _ _ _ _ AV.nd rfl (Or.inl rfl) (@MC _ _ _ _ _ _ _ JR (@zH _ _ _ _ (@pC _ _ _ _ _ sC (@pC _ _ _ _ _ sC (@pC _ _ _ _ _ sC (@pC _ _ _ _ _ sC (@pC _ _ _ _ _ sC (@pC _ _ _ _ _ sC (@pC _ _ _ _ _ sC (@pC _ _ _ _ _ sC uC rfl) rfl) rfl) rfl) rfl) rfl) rfl) rfl)) (ZC qF (nC 1) sC) (λο ο=>rfl)) rfl (Or.inl rfl))
   (NC (sD (i:=4) AV.nd rfl (Or.inl rfl) (ZC JH (ZC qF (ZC YE (ZC JI (nC 0) (nC 3)) (ZC JI (ZC JI sC (nC 1)) (nC 1))) sC) sC))
   (EC (YC (ZC qF (ZC JH (ZC qF (ZC YE (ZC JI (nC 4) sC) (ZC JI sC (nC 1))) sC) sC) (nC 2))))))),?_⟩
  rfl';refine VC (λο=>⟨⋯,hm,q' _ _ LC⟩) (λο p hp=>?_);obtain⟨y,hy⟩:∃y:Nat,k % 8=(y:Int):=⟨(k % 8).toNat,⋯⟩
  obtain⟨x1,hx,h1,h2⟩:∃x1:Int,gH [V.int 48271,V.int 69621,V.int 16807,V.int 39373,V.int 30323,V.int 40692,V.int 52774,V.int 45991] (y:Int)=some (.int x1)/\ -18446744073709551616 < x1/\x1 < 18446744073709551616:=by
   obtain rfl|rfl|rfl|rfl|rfl|rfl|rfl|rfl:y=0\/y=1\/y=2\/y=3\/y=4\/y=5\/y=6\/y=7:=⋯
   all_goals exact⟨_,JD rfl,by decide,by decide⟩
  rw[hy];exact⟨_,hx,x1,rfl,.inr ⟨h1,h2⟩,.inr ⟨⋯,⋯⟩,hm,q' _ _ (dD LC hp)⟩
inductive Xc (vs:List V) (H:Hp) (Q:VK) (E:XK):Prop where
 |mk (c:Int) (_:vs=[.int c]) (_:∀n,Q (.int n) H):Xc vs H Q E
noncomputable def sp_val:Sp:=Xc
theorem nP (T:AD K mg A):KD P w K mg base "_law_value" 1 ["_law_cell"] [] sp_val:=by
 refine T.Ou.have Xk (λvs H Q E z=>?_) ?_
 ·obtain⟨c,rfl,_⟩:=z;rfl
 ·intro f cdv A' outer s H vs Q E hr z;obtain⟨c,rfl,q⟩:=z;refine⟨_,(NC (eD (tD pE (ZC qF (ZC JH (nC 0) sC) sC) sC (rC _)) (EC (YC (ZC qF (ZC U3 (ZC JH (nC 0) sC) sC) (ZC HK sC sC)))) fD)
   (EC (YC (ZC qF (nC 0) (ZC HK sC sC))))),?_⟩
  rfl';exact VC (λο=>q _) (λο=>q _)
inductive Yc (vs:List V) (H:Hp) (Q:VK) (E:XK):Prop where
 |mk (a:Addr) (kvs:Kvs) (_:vs=[.ref a]) (_:H a=some (.dK kvs)) (_:∀k:Nat,DH (cD kvs) k->Q (.int k) H):Yc vs H Q E
noncomputable def sp_l_least:Sp:=Yc
theorem CW (T:AD K mg A):KD P w K mg base "_law_least" 1 ["_law_numbers"] [] sp_l_least:=by
 refine T.Ov.have LV (λvs H Q E z=>?_) ?_
 ·obtain⟨a,kvs,rfl,_⟩:=z;rfl
 ·intro f cdv A' outer s H vs Q E hr z;obtain⟨a,kvs,rfl,ha,q⟩:=z;refine⟨_,(NC (sD (i:=1) LV.nd rfl (Or.inl rfl) sC)
   (NC (iU WA (nI (VN (vE hr) (nC 1) (nC 0))) (EC (sD (i:=1) LV.nd rfl (Or.inl rfl) (ZC YE (nC 1) sC))))
   (EC (YC (nC 1))))),?_⟩
  unfold jH;rfl';refine jU (λm σ H'=>∃i:Nat,σ=[some (.ref a),some (.int i)]/\H'=H/\m+i=kvs.length+1/\∀j:Nat,j < i->(Sum.inl (j:Int):Key)∈cD kvs) (kvs.length+1) ⟨0,rfl,rfl,rfl,λj h=>absurd h (Nat.not_lt_zero _)⟩ (λm σ H'=>?_);rintro⟨i,rfl,rfl,hm,hj⟩;rfl';refine⟨_,.inl ⟨kvs,Sum.inl (i:Int),.inl ha,rfl,rfl⟩,?_⟩;by_cases c:(Sum.inl (i:Int):Key)∈cD kvs
  ·rw[NS c];have hj':∀j:Nat,j < i+1->(Sum.inl (j:Int):Key)∈cD kvs:=λj h=>by
    rcases Nat.lt_succ_iff_lt_or_eq.mp h with q|rfl
    ·exact hj j q
    ·exact c
   have hle:=tW (i+1) (cD kvs) hj';have hlk:(cD kvs).length=kvs.length:=by unfold cD;rw[dA]
   refine qD (VH ?_);rfl';exact⟨m - 1,⋯,i+1,rfl,⋯,hj'⟩
  ·rw[OS c];refine CC ?_;exact q i ⟨c,hj⟩
noncomputable def IK (kvs:Kvs):Prop:=∃ns:List Int,kvs.map (·.1)=ns.map Sum.inl
theorem rm (x y z j:Int):∃n:Int,gH [V.int x,V.int y,V.int z] (j % 3)=some (.int n):=by
 obtain⟨i,hi⟩:∃i:Nat,j % 3=(i:Int):=⟨(j % 3).toNat,⋯⟩
 rw[hi];obtain rfl|rfl|rfl:i=0\/i=1\/i=2:=⋯
 all_goals exact⟨_,JD rfl⟩
inductive Zc (vs:List V) (H:Hp) (Q:VK) (E:XK):Prop where
 |mk (a:Addr) (kvs:Kvs) (c:Int) (_:vs=[.ref a,.int c]) (_:H a=some (.dK kvs)) (_:IK kvs) (_:kvs.length < 16777216) (_:∀n H',vC H H'->Q (.int n) H'):Zc vs H Q E
noncomputable def sp_pick:Sp:=Zc
theorem cM (T:AD K mg A):KD P w K mg base "_law_pick" 2 ["_law_numbers","_law_cell"] [] sp_pick:=by
 have Bm:=@CW P w K mg base A T;refine T.Pw.have x9 (λvs H Q E z=>?_) ?_
 ·obtain⟨a,kvs,c,rfl,_⟩:=z;rfl
 ·intro f cdv A' outer s H vs Q E hr z;obtain⟨a,kvs,c,rfl,ha,⟨ns,hk⟩,hl,q⟩:=z;refine⟨_,(NC (sD (i:=2) x9.nd rfl (Or.inl rfl) (ZC JH (nC 1) sC))
   (NC (eD (PW.pt (HH (tD pE (ZC qF (nC 1) sC) sC (rC _)) (HI (tD pE (SD wI rfl T.Ba PySem.boot_len (pC (nC 0) uC)) sC (rC _))))) (EC (YC (MC JR (zH (pC (lD Bm (hr.mono (by decide)) KC (pC (nC 0) uC)) (pC (ZC YG (DM MM sC) (nC 2)) (pC (ZC YE sC (nC 2)) uC)))) (ZC qF (nC 2) sC) (λο ο=>rfl)))) fD)
   (EC (YC (MC uI (SD (cI rfl) rfl T.Bb gB (pC (nC 0) uC)) (ZC qF (nC 2) (SD wI rfl T.Ba PySem.boot_len (pC (nC 0) uC))) (λο ο=>rfl)))))),?_⟩
  rfl';have q1:∀k:Nat,∀(p:Addr),H p=none->∃x_1,gH [V.int (k:Int),V.int (-1 - c / 7),V.int (64+c / 7)] (c / 7 % 3)=some x_1/\Q x_1 (yC H p (HO.lst [V.int (k:Int),V.int (-1 - c / 7),V.int (64+c / 7)])):=λk p hp=>by
   obtain⟨n,hn⟩:=rm k (-1 - c / 7) (64+c / 7) (c / 7);exact⟨_,hn,q _ _ (dD LC hp)⟩
  refine VC (λο=>⟨a,kvs,rfl,ha,λk ο=>q1 k⟩) (λο=>⟨kvs,ha,VC (λο=>⟨a,kvs,rfl,ha,λk ο=>q1 k⟩) (λh0=>⟨kvs,.inl ha,ns,hk,λl ms hl hp hs=>?_⟩)⟩);have hll:ms.length=kvs.length:=by
   have:=congrArg List.length hk;rw[dA,dA] at this;rw[hp.length_eq];exact this.symm
  have h1:(kvs.length:Int)≠0:=h0;have e1:=Int.emod_nonneg (c / 7) h1;have e2:=Int.emod_lt_of_pos (c / 7) (show (0:Int) < kvs.length by omega);obtain⟨y,hy⟩:∃y:Nat,c / 7 % (kvs.length:Int)=(y:Int):=⟨(c / 7 % (kvs.length:Int)).toNat,⋯⟩
  have hyl:y < ms.length:=⋯;refine⟨kvs,by rw[WC (AE ha hl)];exact ha,⋯,_,aD.of SC,.int (ms[y]),?_,q _ _ (dD LC hl)⟩;rw[hy];exact JD (by rw[UA,zA hyl];rfl)
inductive ed (vs:List V) (H:Hp) (Q:VK) (E:XK):Prop where
 |mk (a:Addr) (kvs:Kvs) (c pg:Int) (_:vs=[.ref a,.int c,.int pg]) (_:H a=some (.dK kvs)) (_:IK kvs) (_:kvs.length < 16777216) (_:0 < pg) (_:∀x m b H',vC H H'->H' b=some (.tup [.int x,.int m])->Q (.ref b) H'):ed vs H Q E
noncomputable def sp_str:Sp:=ed
theorem oP (T:AD K mg A):KD P w K mg base "_law_stretch" 2 ["_law_mine","_law_cell","_law_pages"] [] sp_str:=by
 have Au:=@SS P w K mg base A T;refine T.Nm.have UV (λvs H Q E z=>?_) ?_
 ·obtain⟨a,kvs,c,pg,rfl,_⟩:=z;rfl
 ·intro f cdv A' outer s H vs Q E hr z;obtain⟨a,kvs,c,pg,rfl,ha,⟨ns,hk⟩,hl,hpg,q⟩:=z;refine⟨_,(NC (sD (i:=3) UV.nd rfl (Or.inl rfl) (lD Au (hr.mono (by decide)) KC (pC (nC 1) (pC sC (pC sC uC)))))
   (OD (sD (i:=4) UV.nd rfl (Or.inl rfl) (ZC YE sC (lD Au (hr.mono (by decide)) KC (pC (nC 1) (pC sC (pC sC uC))))))
   (OD (eD (tD pE (nC 3) sC (rC _)) (EC (YC (YD (pC (ZC YG (nC 2) (lD Au (hr.mono (by decide)) KC (pC (nC 1) (pC sC (pC sC uC))))) (pC (nC 4) uC))))) fD)
   (OD (eD (tD pE (nC 3) sC (rC _)) (EC (YC (YD (pC (DM MM (lD Au (hr.mono (by decide)) KC (pC (nC 1) (pC sC (pC sC uC))))) (pC (ZC YE sC (lD Au (hr.mono (by decide)) KC (pC (nC 1) (pC sC (pC sC uC))))) uC))))) fD)
   (OD (eD (tD pE (nC 3) sC (rC _)) (EC (YC (YD (pC (lD Au (hr.mono (by decide)) KC (pC (nC 1) (pC sC (pC sC uC)))) (pC (ZC YG (lD Au (hr.mono (by decide)) KC (pC (nC 1) (pC sC (pC sC uC)))) sC) uC))))) fD)
   (OD (eD (PW.pt (GH (tD UF (nC 3) sC (rC _)) (oI (tD fH (SD wI rfl T.Ba PySem.boot_len (pC (nC 0) uC)) sC (rC _))))) (EC (YC (YD (pC (MC uI (SD (cI rfl) rfl T.Bb gB (pC (nC 0) uC)) (lD Au (hr.mono (by decide)) KC (pC (nC 1) (pC sC (pC (SD wI rfl T.Ba PySem.boot_len (pC (nC 0) uC)) uC)))) (λο ο=>rfl)) (pC (nC 4) uC))))) fD)
   (EC (YC (YD (pC (lD Au (hr.mono (by decide)) KC (pC (nC 1) (pC sC (pC (SD (i4 rfl) rfl T.Q1 PyProof.Rows.boot_min (pC (nC 2) (pC sC uC))) uC)))) (pC (nC 4) uC))))))))))),?_⟩
  rfl';refine⟨c,2,12,rfl,by decide,by decide,by decide,λw0 H1 s1 ο ο=>?_⟩;have q2:∀{H':Hp} {x m:Int},vC H H'->∀p,H' p=none->Q (.ref p) (yC H' p (.tup [.int x,.int m])):=λs p hp=>q _ _ p _ (s.trans (dD LC hp)) SC;refine RC (λσ G=>∃m:Int,σ=[some (.ref a),some (.int c),some (.int pg),some (.int w0),some (.int m)]/\vC H G) ?_ λU9 D9 hU9 hD9 σ2 H2=>?_
  ·rfl';exact⟨c,3,5,rfl,by decide,by decide,by decide,λn H' s ο ο=>⟨_,rfl,s1.trans s⟩⟩
  rintro⟨m,rfl,s2⟩;subst hU9 hD9;refine RC (λσ G=>σ=[some (.ref a),some (.int c),some (.int pg),some (.int w0),some (.int m)]/\G=H2) ?_ λU9 D9 hU9 hD9 σ3 H3=>?_
  ·rfl';exact VC (λο=>⟨c,4,4,rfl,by decide,by decide,by decide,λn H' s ο ο=>⟨n,rfl,q2 (s2.trans s)⟩⟩) (λο=>trivial)
  rintro⟨rfl,rfl⟩;subst hU9 hD9;refine RC (λσ G=>σ=[some (.ref a),some (.int c),some (.int pg),some (.int w0),some (.int m)]/\G=H3) ?_ λU9 D9 hU9 hD9 σ4 H4=>?_
  ·rfl';exact VC (λο=>⟨c,4,3,rfl,by decide,by decide,by decide,λn H' s ο ο=>⟨n,rfl,c,3,70,rfl,by decide,by decide,by decide,λn2 H'' s' ο ο=>⟨n2,rfl,q2 ((s2.trans s).trans s')⟩⟩⟩) (λο=>trivial)
  rintro⟨rfl,rfl⟩;subst hU9 hD9;refine RC (λσ G=>σ=[some (.ref a),some (.int c),some (.int pg),some (.int w0),some (.int m)]/\G=H4) ?_ λU9 D9 hU9 hD9 σ5 H5=>?_
  ·rfl';exact VC (λο=>⟨c,4,12,rfl,by decide,by decide,by decide,λn H' s ο ο=>⟨c,3,68,rfl,by decide,by decide,by decide,λn2 H'' s' ο ο=>⟨n2,rfl,q2 ((s2.trans s).trans s')⟩⟩⟩) (λο=>trivial)
  rintro⟨rfl,rfl⟩;subst hU9 hD9;refine RC (λσ G=>σ=[some (.ref a),some (.int c),some (.int pg),some (.int w0),some (.int m)]/\G=H5) ?_ λU9 D9 hU9 hD9 σ6 H6=>?_
  ·rfl';refine VC (λο=>⟨kvs,s2 _ _ ha,VC (λh0=>⟨kvs,.inl (s2 _ _ ha),ns,hk,λl ms hl2 hp hs=>⟨kvs,by rw[WC (AE (s2 _ _ ha) hl2)];exact s2 _ _ ha,c,4,_,rfl,by decide,by decide,h0,λn H' s hn0 hn1=>⟨_,n,rfl,aD.of (s _ _ SC),?_⟩⟩⟩) (λο=>trivial)⟩) (λο=>CC trivial);have hll:ms.length=kvs.length:=by
    have:=congrArg List.length hk;rw[dA,dA] at this;rw[hp.length_eq];exact this.symm
   obtain⟨y,rfl⟩:∃y:Nat,n=(y:Int):=⟨n.toNat,⋯⟩
   have hyl:y < ms.length:=⋯;exact⟨.int (ms[y]),JD (by rw[UA,zA hyl];rfl),q2 ((s2.trans (dD LC hl2)).trans s)⟩
  rintro⟨rfl,rfl⟩;subst hU9 hD9;rfl';exact⟨c,4,_,rfl,by decide,by decide,by split<;>omega,λn H' s ο ο=>q2 (s2.trans s)⟩
inductive Dd where
 |new
 |bank (n:Int)
 |drop (n:Int)
 |fork (n:Int)
 |fin (n:Int)
 |lift (n x m:Int)
 |guard (n x m r:Int)
 |lay (n x m r:Int) (b:Option Int) (st:Int)
noncomputable def Dd.vs:Dd->List V
 |.new=>[.str "new"]
 |.bank n=>[.str "bank",.int n]
 |.drop n=>[.str "drop",.int n]
 |.fork n=>[.str "fork",.int n]
 |.fin n=>[.str "end",.int n]
 |.lift n x m=>[.str "lift",.int n,.int x,.int m]
 |.guard n x m r=>[.str "guard",.int n,.int x,.int m,.int r]
 |.lay n x m r b st=>[.str "lay",.int n,.int x,.int m,.int r,bV b,.int st]
noncomputable def vH (H:Hp) (a:Addr) (d:Dd):Prop:=H a=some (.tup d.vs)
inductive gd (vs:List V) (H:Hp) (Q:VK) (E:XK):Prop where
 |mk (td bd:Addr) (tk bk:Kvs) (pg c:Int) (_:vs=[.ref td,.ref bd,.int pg,.int c]) (_:H td=some (.dK tk)) (_:IK tk) (_:tk.length < 16777216) (_:(∀k v,JC tk k=some v->∃d kv,v=.ref d/\H d=some (.dK kv)/\IK kv/\kv.length < 16777216)) (_:H bd=some (.dK bk)) (_:IK bk) (_:bk.length < 16777216) (_:0 < pg) (_:∀d b H',vC H H'->vH H' b d->Q (.ref b) H'):gd vs H Q E
noncomputable def sp_deed:Sp:=gd
theorem dM (T:AD K mg A):KD P w K mg base "_law_deed" 3 ["_law_tasks","_law_banks","_law_pages","_law_cell"] [] sp_deed:=by
 have Au:=@SS P w K mg base A T;have Pp:=@nP P w K mg base A T;have I8:=@cM P w K mg base A T;have N6:=@oP P w K mg base A T;refine T.Px.have aJ (λvs H Q E z=>?_) ?_
 ·obtain⟨td,bd,tk,bk,pg,c,rfl,_⟩:=z;rfl
 ·intro f cdv A' outer s H vs Q E hr z;obtain⟨td,bd,tk,bk,pg,c,rfl,ht,it,lt,hv,hb,ib,lb,hpg,q⟩:=z;refine⟨_,(NC (sD (i:=4) aJ.nd rfl (Or.inl rfl) (ZC qF (nC 3) sC))
   (OD (eD (PW.pt (HH (PW.pt (GH (tD pE (nC 4) sC (rC _)) (oI (tD UF (SD wI rfl T.Ba PySem.boot_len (pC (nC 0) uC)) sC (rC _))))) (HI (tD pE (SD wI rfl T.Ba PySem.boot_len (pC (nC 0) uC)) sC (rC _))))) (EC (YC (YD (pC wD uC)))) fD)
   (OD (eD (PW.pt (GH (tD pE (nC 4) sC (rC _)) (oI (tD UF (SD wI rfl T.Ba PySem.boot_len (pC (nC 1) uC)) sC (rC _))))) (EC (YC (YD (pC wD (pC (DR (tD UF (ZC qF (nC 3) sC) sC (rC _)) (lD Au (hr.mono (by decide)) KC (pC (nC 3) (pC sC (pC sC uC)))) (ZC YG (lD Au (hr.mono (by decide)) KC (pC (nC 3) (pC sC (pC sC uC)))) sC)) uC))))) fD)
   (OD (sD (i:=5) aJ.nd rfl (Or.inl rfl) (lD I8 (hr.mono (by decide)) KC (pC (nC 0) (pC (lD Au (hr.mono (by decide)) KC (pC (nC 3) (pC sC (pC (ZC HK sC sC) uC)))) uC))))
   (OD (eD (PW.pt (GH (tD UF (nC 4) sC (rC _)) (GH (tD UF (SD wI rfl T.Ba PySem.boot_len (pC (nC 0) uC)) sC (rC _)) (oI (tD fH (lD Au (hr.mono (by decide)) KC (pC (nC 3) (pC sC (pC sC uC)))) sC (rC _)))))) (EC (YC (YD (pC wD (pC (nC 5) uC))))) fD)
   (OD (eD (tD UF (nC 4) sC (rC _)) (EC (YC (YD (pC wD (pC (nC 5) uC))))) fD)
   (OD (eD (tD pE (nC 4) sC (rC _)) (EC (YC (YD (pC wD (pC (lD I8 (hr.mono (by decide)) KC (pC (nC 1) (pC (lD Au (hr.mono (by decide)) KC (pC (nC 3) (pC sC (pC (ZC HK sC sC) uC)))) uC))) uC))))) fD)
   (NC (sD (i:=6) aJ.nd rfl (Or.inl rfl) KM)
   (OD (eD (nI (VN (vE hr) (nC 5) (nC 0))) (EC (sD (i:=6) aJ.nd rfl (Or.inl rfl) (hG (vE hr) (nC 0) (nC 5) (λο ο=>rfl)))) fD)
   (OD (sD (i:=7) aJ.nd rfl (Or.inl rfl) (lD N6 (hr.mono (by decide)) KC (pC (nC 6) (pC (nC 3) (pC (nC 2) uC)))))
   (NC (sD (i:=8) aJ.nd rfl (Or.inl rfl) (lD Au (hr.mono (by decide)) KC (pC (nC 3) (pC sC (pC sC uC)))))
   (OD (sD (i:=8) aJ.nd rfl (Or.inl rfl) (MC JR (zH (pC (ZC qF (nC 8) sC) (pC (ZC YE sC (ZC qF (lD Pp (hr.mono (by decide)) KC (pC (nC 3) uC)) (ZC HK sC sC))) (pC (DM MM sC) uC)))) (SD (Z3 rfl) rfl T.Q0 PyProof.Rows.boot_max (pC sC (pC (ZC YG (nC 8) sC) uC))) (λο ο=>rfl)))
   (NC (eD (tD UF (nC 4) sC (rC _)) (EC (YC (YD (pC wD (pC (nC 5) (pC (MC UC (nC 7) sC (λο ο=>rfl)) (pC (MC UC (nC 7) sC (λο ο=>rfl)) uC))))))) fD)
   (NC (eD (tD UF (nC 4) sC (rC _)) (EC (YC (YD (@pC _ _ _ _ _ wD (@pC _ _ _ _ _ (nC 5) (@pC _ _ _ _ _ (MC UC (nC 7) sC (λο ο=>rfl)) (@pC _ _ _ _ _ (MC UC (nC 7) sC (λο ο=>rfl)) (@pC _ _ _ _ _ (nC 8) uC rfl) rfl) rfl) rfl) rfl)))) fD)
   (NC (eD (tD UF (nC 4) sC (rC _)) (EC (YC (YD (@pC _ _ _ _ _ wD (@pC _ _ _ _ _ (nC 5) (@pC _ _ _ _ _ (MC UC (nC 7) sC (λο ο=>rfl)) (@pC _ _ _ _ _ (MC UC (nC 7) sC (λο ο=>rfl)) (@pC _ _ _ _ _ (nC 8) (@pC _ _ _ _ _ XE (@pC _ _ _ _ _ sC uC rfl) rfl) rfl) rfl) rfl) rfl) rfl)))) fD)
   (NC (sD (i:=9) aJ.nd rfl (Or.inl rfl) (lD I8 (hr.mono (by decide)) KC (pC (nC 1) (pC (lD Au (hr.mono (by decide)) KC (pC (nC 3) (pC sC (pC (ZC HK sC sC) uC)))) uC))))
   (EC (YC (YD (@pC _ _ _ _ _ wD (@pC _ _ _ _ _ (nC 5) (@pC _ _ _ _ _ (MC UC (nC 7) sC (λο ο=>rfl)) (@pC _ _ _ _ _ (MC UC (nC 7) sC (λο ο=>rfl)) (@pC _ _ _ _ _ (nC 8) (@pC _ _ _ _ _ (nC 9) (@pC _ _ _ _ _ (ZC YG (lD Au (hr.mono (by decide)) KC (pC (nC 3) (pC sC (pC sC uC)))) sC) uC rfl) rfl) rfl) rfl) rfl) rfl) rfl)))))))))))))))))))),?_⟩
  rfl';generalize c % 12=kd;have q2:∀{H':Hp} (d:Dd),vC H H'->∀p,H' p=none->Q (.ref p) (yC H' p (.tup d.vs)):=λd s p hp=>q d p _ (s.trans (dD LC hp)) SC;refine RC (λσ G=>σ=[some (.ref td),some (.ref bd),some (.int pg),some (.int c),some (.int kd),none,none,none,none,none]/\G=H) ?_ λU9 D9 hU9 hD9 σ1 H1=>?_
  ·rfl';exact VC (λο=>⟨tk,ht,VC (λο=>q2 .new LC) (λο=>⟨tk,ht,VC (λο=>q2 .new LC) (λο=>trivial)⟩)⟩) (λο=>CC ⟨tk,ht,VC (λο=>q2 .new LC) (λο=>trivial)⟩)
  rintro⟨rfl,rfl⟩;subst hU9 hD9;refine RC (λσ G=>σ=[some (.ref td),some (.ref bd),some (.int pg),some (.int c),some (.int kd),none,none,none,none,none]/\G=H1) ?_ λU9 D9 hU9 hD9 σ2 H2=>?_
  ·rfl';exact VC (λο=>⟨bk,hb,VC (λο=>VC (λο=>⟨c,1,9,rfl,by decide,by decide,by decide,λn H' s ο ο=>q2 (.bank n) s⟩) (λο=>⟨c,1,70,rfl,by decide,by decide,by decide,λn H' s ο ο=>⟨n,rfl,q2 (.bank (n - 2)) s⟩⟩)) (λο=>trivial)⟩) (λο=>CC trivial)
  rintro⟨rfl,rfl⟩;subst hU9 hD9;refine RC (λσ G=>∃n:Int,σ=[some (.ref td),some (.ref bd),some (.int pg),some (.int c),some (.int kd),some (.int n),none,none,none,none]/\vC H2 G) ?_ λU9 D9 hU9 hD9 σ3 H3=>?_
  ·rfl';exact⟨c,5,_,rfl,by decide,by decide,by decide,λn H' s ο ο=>⟨td,tk,n,rfl,s _ _ ht,it,lt,λn2 H'' s'=>⟨n2,rfl,s.trans s'⟩⟩⟩
  rintro⟨n,rfl,s3⟩;subst hU9 hD9;refine RC (λσ G=>σ=[some (.ref td),some (.ref bd),some (.int pg),some (.int c),some (.int kd),some (.int n),none,none,none,none]/\vC H2 G) ?_ λU9 D9 hU9 hD9 σ4 H4=>?_
  ·rfl';exact VC (λο=>⟨tk,s3 _ _ ht,VC (λο=>⟨c,0,3,rfl,by decide,by decide,by decide,λi H' s ο ο=>⟨i,rfl,VC (λο=>q2 (.fork n) (s3.trans s)) (λο=>s3.trans s)⟩⟩) (λο=>CC s3)⟩) (λο=>CC s3)
  rintro⟨rfl,s4⟩;subst hU9 hD9;refine RC (λσ G=>σ=[some (.ref td),some (.ref bd),some (.int pg),some (.int c),some (.int kd),some (.int n),none,none,none,none]/\vC H2 G) ?_ λU9 D9 hU9 hD9 σ5 H5=>?_
  ·rfl';exact VC (λο=>q2 (.fin n) s4) (λο=>s4)
  rintro⟨rfl,s5⟩;subst hU9 hD9;refine RC (λσ G=>σ=[some (.ref td),some (.ref bd),some (.int pg),some (.int c),some (.int kd),some (.int n),none,none,none,none]/\vC H2 G) ?_ λU9 D9 hU9 hD9 σ6 H6=>?_
  ·rfl';exact VC (λο=>⟨c,6,_,rfl,by decide,by decide,by decide,λm H' s ο ο=>⟨bd,bk,m,rfl,(s5.trans s) _ _ hb,ib,lb,λn2 H'' s'=>q2 (.drop n2) ((s5.trans s).trans s')⟩⟩) (λο=>s5)
  rintro⟨rfl,s6⟩;subst hU9 hD9;rfl';intro m0 hm0;refine RC (λσ G=>∃(d:Addr) (kv:Kvs),σ=[some (.ref td),some (.ref bd),some (.int pg),some (.int c),some (.int kd),some (.int n),some (.ref d),none,none,none]/\vC H2 G/\G d=some (.dK kv)/\IK kv/\kv.length < 16777216) ?_ λU9 D9 hU9 hD9 σ7 H7=>?_
  ·unfold jH ND;rfl';have s6':vC H2 (yC H6 m0 (.dK [])):=s6.trans (dD LC hm0);refine⟨JC tk (Sum.inl n),.inl ⟨tk,Sum.inl n,.inl (s6' _ _ ht),rfl,rfl⟩,?_⟩;cases hv':JC tk (Sum.inl n) with
   |none=>exact CC ⟨s6',[],rfl,⟨[],rfl⟩,by decide⟩
   |some v=>
    obtain⟨d,kv,rfl,hd,ik,hl⟩:=hv _ _ hv';exact qD ⟨_,.inl ⟨tk,Sum.inl n,.inl (s6' _ _ ht),rfl,hv'.symm⟩,d,rfl,s6',kv,s6' _ _ hd,ik,hl⟩
  rintro⟨d,kv,rfl,s7,hd,ik,hkl⟩;subst hU9 hD9;refine RC (λσ G=>∃(e:Addr) (x m:Int),σ=[some (.ref td),some (.ref bd),some (.int pg),some (.int c),some (.int kd),some (.int n),some (.ref d),some (.ref e),none,none]/\vC H2 G/\G e=some (.tup [.int x,.int m])) ?_ λU9 D9 hU9 hD9 σ8 H8=>?_
  ·rfl';exact⟨d,kv,c,pg,rfl,hd,ik,hkl,hpg,λx m b H' s hb'=>⟨b,rfl,s7.trans s,x,m,hb'⟩⟩
  rintro⟨e,x,m,rfl,s8,he⟩;subst hU9 hD9;rfl';refine⟨c,7,22,rfl,by decide,by decide,by decide,λr0 H9 s9 h0 h1=>?_⟩;refine RC (λσ G=>∃r:Int,σ=[some (.ref td),some (.ref bd),some (.int pg),some (.int c),some (.int kd),some (.int n),some (.ref d),some (.ref e),some (.int r),none]/\vC H2 G/\G e=some (.tup [.int x,.int m])) ?_ λU9 D9 hU9 hD9 σ10 H10=>?_
  ·rfl';refine⟨c,rfl,λi=>⟨i,rfl,λp hp=>?_⟩⟩;have s10:=(s8.trans s9).trans (dD (o:=HO.lst [V.int (r0 % 4),V.int (4+i % 100000000000000000000),V.int (-1)]) LC hp);have he9:=(s9.trans (dD (o:=HO.lst [V.int (r0 % 4),V.int (4+i % 100000000000000000000),V.int (-1)]) LC hp)) _ _ he;obtain⟨j,hj,hj3⟩:∃j:Nat,(if r0 - 19 > 0 then r0 - 19 else 0)=(j:Int)/\j < 3:=⟨(if r0 - 19 > 0 then r0 - 19 else 0).toNat,by split<;>omega,by split<;>omega⟩
   rw[hj];obtain rfl|rfl|rfl:j=0\/j=1\/j=2:=⋯
   all_goals exact⟨_,JD rfl,_,rfl,s10,he9⟩
  rintro⟨r,rfl,s10,he10⟩;subst hU9 hD9;rfl';refine VC (λο=>⟨_,OC.of he10,_,JD (j:=0) rfl,_,OC.of he10,_,JD (j:=1) rfl,q2 (.lift n x m) s10⟩) (λο=>VC (λο=>⟨_,OC.of he10,_,JD (j:=0) rfl,_,OC.of he10,_,JD (j:=1) rfl,q2 (.guard n x m r) s10⟩) (λο=>VC (λο=>⟨_,OC.of he10,_,JD (j:=0) rfl,_,OC.of he10,_,JD (j:=1) rfl,q2 (.lay n x m r none 0) s10⟩) (λο=>?_)));refine⟨c,6,_,rfl,by decide,by decide,by decide,λy H11 s11 ο ο=>⟨bd,bk,y,rfl,(s10.trans s11) _ _ hb,ib,lb,λb2 H12 s12=>?_⟩⟩;have he12:=(s11.trans s12) _ _ he10;exact⟨_,OC.of he12,_,JD (j:=0) rfl,_,OC.of he12,_,JD (j:=1) rfl,c,1,9,rfl,by decide,by decide,by decide,λy2 H13 s13 ο ο=>⟨y2,rfl,q2 (.lay n x m r (some b2) (y2 - 1)) (((s10.trans s11).trans s12).trans s13)⟩⟩
theorem tm {kvs:Kvs} {k j:Key}:JC (nD kvs k) j=if j=k then none else JC kvs j:=by
 induction kvs with
 |nil=>split<;>rfl
 |cons p r ih=>
  by_cases h:p.1=k
  ·rw[ph h,ih];by_cases c:j=k
   ·rw[bA c,bA c]
   ·rw[aA c,aA c,CG (λz=>c (by rw[<-z,h]))]
  ·rw[qh h];by_cases c:p.1=j
   ·rw[LG c,aA (λz=>h (by rw[c,z])),LG c]
   ·rw[CG c,ih,CG c]
theorem jd {kvs:Kvs} {k:Key} {v u:V} (h:JC kvs k=some u):(ED kvs k v).map (·.1)=kvs.map (·.1):=by
 unfold ED;rw[rJ,h,bA (show (some u).isSome=true from rfl),HB];refine List.map_congr_left λp ο=>?_;show (if p.1=k then (p.1,v) else p).1=p.1
 split<;>rfl
noncomputable def Tp (H H':Hp):Prop:=∀c xs,H c=some (.tup xs)->H' c=some (.tup xs)
theorem Tp.of {H H':Hp} (s:vC H H'):Tp H H':=λc xs h=>s c _ h
theorem Tp.kd {H H':Hp} {d:Addr} {o:HO} (hd:H d=some o) (ho:∀xs,o≠.tup xs) (k:Kd d H H'):Tp H H':=λc xs h=>k _ _ h (OE h hd (λz=>ho _ z.symm))
theorem vD.tp {H H':Hp} {v:V} (s:Tp H H'):∀{t:Option (Int×Int)},vD H v t->vD H' v t
 |none,h=>h
 |some (b,i),⟨a,e,h⟩=>⟨a,e,s _ _ h⟩
noncomputable abbrev Og:=Int×Option (Int×Int)
noncomputable def fF (H:Hp) (v:V) (g:Og):Prop:=∃a tv,v=.ref a/\H a=some (.tup [.int g.1,tv])/\vD H tv g.2
theorem fF.tp {H H':Hp} {v:V} {g:Og} (h:fF H v g) (s:Tp H H'):fF H' v g:=let ⟨a,tv,e,h1,h2⟩:=h;⟨a,tv,e,s _ _ h1,h2.tp s⟩
structure GD (H:Hp) (N:Nat) (d:Addr) (kv:Kvs) (F:Int->Option Og):Prop where
 d:H d=some (.dK kv)
 v:∀p:Int,(∃v g,JC kv (Sum.inl p)=some v/\F p=some g/\fF H v g)\/(JC kv (Sum.inl p)=none/\F p=none)
 k:∃ns:List Int,kv.map (·.1)=ns.map Sum.inl/\ns.Nodup
 n:kv.length<=N
section
variable {H H':Hp} {N N':Nat} {d:Addr} {kv:Kvs} {F F':Int->Option Og} {x:Int} {u:V} {g:Og}
theorem GD.tp (h:GD H N d kv F) (s:Tp H H') (hd:H' d=some (.dK kv)):GD H' N d kv F:=
 ⟨hd,λp=>(h.v p).imp (λ⟨v,g,h1,h2,h3⟩=>⟨v,g,h1,h2,h3.tp s⟩) id,h.k,h.n⟩
theorem GD.same (h:GD H N d kv F) (s:vC H H'):GD H' N d kv F:=h.tp (.of s) (s _ _ h.d)
theorem GD.le (h:GD H N d kv F) (hN:N<=N'):GD H N' d kv F:=⟨h.d,h.v,h.k,YA h.n hN⟩
theorem GD.ik (h:GD H N d kv F):IK kv:=let ⟨ns,e,_⟩:=h.k;⟨ns,e⟩
theorem GD.put (h:GD H N d kv F) (s:Tp H H') (hd:H' d=some (.dK (ED kv (Sum.inl x) u))) (hu:fF H' u g):GD H' (N+1) d (ED kv (Sum.inl x) u) (λp=>if p=x then some g else F p):=by
 refine⟨hd,λp=>?_,?_,?_⟩
 ·rw[Vg];by_cases c:p=x
  ·rw[bA (by rw[c]),bA c];exact .inl ⟨u,g,rfl,rfl,hu⟩
  ·rw[aA (λz=>c (UB z)),aA c];exact (h.v p).imp (λ⟨v,g,h1,h2,h3⟩=>⟨v,g,h1,h2,h3.tp s⟩) id
 ·obtain⟨ns,e,nd⟩:=h.k;cases hv:JC kv (Sum.inl x) with
  |some w=>rw[jd hv];exact⟨ns,e,nd⟩
  |none=>
   rw[UT _ hv];refine⟨ns++[x],by rw[KA,KA,e];rfl,?_⟩;rw[LB];refine⟨nd,by simp,λa ha b hb z=>?_⟩;rw[gA.mp hb] at z;have:=LM hv;rw[e] at this;exact this (xA.mpr ⟨a,ha,by rw[z]⟩)
 ·have hn:=h.n;cases hv:JC kv (Sum.inl x) with
  |some w=>
   have:=congrArg List.length (jd (v:=u) hv);rw[dA,dA] at this;omega
  |none=>rw[UT _ hv,qA];show kv.length+1<=N+1;omega
theorem GD.drop (h:GD H N d kv F) (s:Tp H H') (hd:H' d=some (.dK (nD kv (Sum.inl x)))):GD H' N d (nD kv (Sum.inl x)) (λp=>if p=x then none else F p):=by
 refine⟨hd,λp=>?_,?_,YA (HR _ _) h.n⟩
 ·rw[tm];by_cases c:p=x
  ·rw[bA (by rw[c]),bA c];exact .inr ⟨rfl,rfl⟩
  ·rw[aA (λz=>c (UB z)),aA c];exact (h.v p).imp (λ⟨v,g,h1,h2,h3⟩=>⟨v,g,h1,h2,h3.tp s⟩) id
 ·obtain⟨ns,e,nd⟩:=h.k;refine⟨ns.filter λy=>decide (y≠x),?_,nd.sublist List.filter_sublist⟩;have e2:(nD kv (Sum.inl x)).map (·.1)=(kv.map (·.1)).filter λk=>decide (k≠Sum.inl x):=by
   unfold nD;rw[List.filter_map]
   rfl
  rw[e2,e,List.filter_map];congr 1;refine List.filter_congr λy ο=>?_;show decide ((Sum.inl y:Key)≠Sum.inl x)=decide (y≠x);rw[yB];simp only[kB];exact⟨λz e=>z (by rw[e]),λz e=>z (UB e)⟩
theorem GD.ns (h:GD H N d kv F):∃ns:List Int,ns.length<=N/\∀p,F p≠none->p∈ns:=by
 obtain⟨ns,e,_⟩:=h.k;refine⟨ns,?_,λp hp=>?_⟩
 ·have:=congrArg List.length e;rw[dA,dA] at this;have:=h.n;omega
 ·obtain⟨v,g,h1,_⟩|⟨_,h2⟩:=h.v p
  ·have:=uJ h1;rw[e] at this;obtain⟨y,hy,e2⟩:=xA.mp this;rw[<-UB e2];exact hy
  ·exact absurd h2 hp
theorem GD.inn (h:GD H N d kv F) (p:Int):(JC kv (Sum.inl p)).isSome=(F p).isSome:=by
 obtain⟨v,g,h1,h2,_⟩|⟨h1,h2⟩:=h.v p
 ·rw[h1,h2];rfl
 ·rw[h1,h2];rfl
end
noncomputable def BD (F G:Int->Option Og) (x:Int) (k:Nat) (p:Int):Option Og:=if x<=p/\p < x+k then G p else F p
theorem DW {F G:Int->Option Og} {x:Int}:BD F G x 0=F:=funext λp=>aA ⋯
theorem US {F G:Int->Option Og} {x:Int} {k:Nat} {o:Option Og} (h:G (x+k)=o):(λp=>if p=x+k then o else BD F G x k p)=BD F G x (k+1):=funext λp=>by
 unfold BD;by_cases c:p=x+k
 ·rw[bA c,bA ⋯,c,h]
 ·rw[aA c];by_cases c2:x<=p/\p < x+k
  ·rw[bA c2,bA ⋯]
  ·rw[aA c2,aA ⋯]
theorem EW {F G:Int->Option Og} {x:Int} {k:Nat}:BD F G x k (x+k)=F (x+k):=aA ⋯
noncomputable def gD (F:Int->Option Og) (x:Int) (k:Nat):Nat:=((List.range k).filter λj=>(F (x+(j:Nat))).isSome).length
theorem VS {F:Int->Option Og} {x:Int} {k:Nat}:gD F x (k+1)=gD F x k+if (F (x+k)).isSome then 1 else 0:=by
 unfold gD;rw[List.range_succ,List.filter_append,qA];congr 1;by_cases c:(F (x+k)).isSome
 ·rw[bA c,dB,bA c];rfl
 ·rw[aA c,dB,aA c];rfl
theorem dN {F:Int->Option Og} {x:Int}:∀{k:Nat},gD F x k<=k
 |0=>iA _
 |k+1=>by rw[VS];have:=dN (F:=F) (x:=x) (k:=k);split<;>omega
theorem WS {F:Int->Option Og} {x:Int}:∀{k:Nat},gD F x k=k↔∀p,x<=p->p < x+k->F p≠none
 |0=>⟨λο p h1 h2=>⋯,λο=>rfl⟩
 |k+1=>by
  rw[VS];have hl:=dN (F:=F) (x:=x) (k:=k);have ih:=WS (F:=F) (x:=x) (k:=k);constructor
  ·intro h p h1 h2;by_cases c:(F (x+k)).isSome
   ·rw[bA c] at h;by_cases e:p=x+k
    ·rw[e];intro z;rw[z] at c;cases c
    ·exact ih.mp ⋯ p h1 ⋯
   ·rw[aA c] at h;omega
  ·intro h;have c:(F (x+k)).isSome=true:=by
    cases e:F (x+k) with
    |none=>exact absurd e (h _ ⋯ ⋯)
    |some _=>rfl
   rw[bA c,ih.mpr λp h1 h2=>h p h1 ⋯]
theorem md {F:Int->Option Og} {x:Int}:∀{k:Nat},gD F x k=0↔∀p,x<=p->p < x+k->F p=none
 |0=>⟨λο p h1 h2=>⋯,λο=>rfl⟩
 |k+1=>by
  rw[VS];have ih:=md (F:=F) (x:=x) (k:=k);constructor
  ·intro h p h1 h2;by_cases c:(F (x+k)).isSome
   ·rw[bA c] at h;omega
   ·rw[aA c] at h;by_cases e:p=x+k
    ·rw[e];cases e2:F (x+k) with
     |none=>rfl
     |some _=>rw[e2] at c;exact absurd rfl c
    ·exact ih.mp ⋯ p h1 ⋯
  ·intro h;rw[aA (by rw[h _ ⋯ ⋯];exact nA),ih.mpr λp h1 h2=>h p h1 ⋯]
noncomputable def uR (x:Int) (g:Og):Rn:=⟨x,1,g.1,g.2⟩
noncomputable def sp_go:Sp:=λvs H Q ο=>∃(v u:V) (R:Rn) (x:Int) (g:Og),vs=[v,.int x,u]/\bD H v R/\fF H u g/\Q (.bl (go R (uR x g))) H
theorem FW (T:AD K mg A):KD P w K mg base "_law_goes_on" 1 ["_law_last","_law_page","_law_one"] [] sp_go:=by
 refine T.Nk.have Zk (λvs H Q E z=>?_) ?_
 ·obtain⟨v,u,R,x,g,rfl,_⟩:=z;rfl
 ·intro f cdv A' outer s H vs Q E hr z;obtain⟨v,u,R,x,g,rfl,⟨a,tv,rfl,ha,hT⟩,⟨b,uv,rfl,hb,hU⟩,q⟩:=z;refine⟨_,(NC (eD (PW.pt (HH (tD ER (ZC YE (MC UC (nC 0) sC (λο ο=>rfl)) (MC UC (nC 0) sC (λο ο=>rfl))) (nC 1) (rC _)) (HI (tD ER (MC UC (nC 0) sC (λο ο=>rfl)) (MC UC (nC 2) sC (λο ο=>rfl)) (rC _))))) (EC (YC oG)) fD)
   (NC (eD (PW.pt (HH (tD sI (MC UC (nC 0) sC (λο ο=>rfl)) XE (rC _)) (HI (tD sI (MC UC (nC 2) sC (λο ο=>rfl)) XE (rC _))))) (EC (YC (cH (GG sI (MC UC (nC 0) sC (λο ο=>rfl)) XE (rC _)) (pI (GG sI (MC UC (nC 2) sC (λο ο=>rfl)) XE (rC _)))))) fD)
   (EC (YC (cH (GG pE (MC UC (MC UC (nC 0) sC (λο ο=>rfl)) sC (λο ο=>rfl)) (MC UC (MC UC (nC 2) sC (λο ο=>rfl)) sC (λο ο=>rfl)) (rC _)) (pI (GG pE (ZC YE (MC UC (MC UC (nC 0) sC (λο ο=>rfl)) sC (λο ο=>rfl)) (MC UC (nC 0) sC (λο ο=>rfl))) (MC UC (MC UC (nC 2) sC (λο ο=>rfl)) sC (λο ο=>rfl)) (rC _)))))))),?_⟩
  rfl';have hs:=OC.of (K:=K) ha;have hs2:=OC.of (K:=K) hb;have bad:go R (uR x g)=false->Q (.bl false) H:=λe=>by rw[e] at q;exact q
  refine⟨_,hs,.int R.f,rfl,_,hs,.int R.m,rfl,R.f,rfl,R.m,rfl,?_⟩;by_cases c1:R.f+R.m=x;rotate_left
  ·rw[bA (by simp[c1])];exact bad (by unfold go;rw[yA (show ¬IC R=(uR x g).f from c1)];rfl)
  rw[aA (by simp[c1])];refine⟨_,hs,.int R.r,rfl,_,hs2,.int g.1,rfl,rfl,?_⟩;by_cases c2:R.r=g.1;rotate_left
  ·rw[bA (by simp[c2])];exact bad (by unfold go;rw[yA (show ¬R.r=(uR x g).r from c2),Bool.and_false];rfl)
  rw[aA (by simp[c2])];have e3:go R (uR x g)=decide (tf R x=g.2):=by
   unfold go;rw[kA (show IC R=(uR x g).f from c1),kA (show R.r=(uR x g).r from c2)];rfl
  rw[e3] at q;clear bad e3;refine⟨_,hs,tv,rfl,?_⟩;unfold tf at q;obtain⟨r,ti⟩:=g;cases hRt:R.t with
  |none=>
   rw[hRt] at hT q;obtain rfl:tv=.non:=hT;rw[bA rfl];refine⟨_,hs,.non,rfl,?_⟩;rw[bA rfl];refine⟨_,hs2,uv,rfl,?_⟩;cases ti with
   |none=>
    obtain rfl:uv=.non:=hU;exact q
   |some y=>
    obtain⟨y1,y2⟩:=y;obtain⟨c,rfl,_⟩:=hU;exact q
  |some bk=>
   obtain⟨b1,k1⟩:=bk;rw[hRt] at hT q;obtain⟨a3,rfl,ha3⟩:=hT;rw[aA (λz=>nomatch z)];refine⟨_,hs2,uv,rfl,?_⟩;cases ti with
   |none=>
    obtain rfl:uv=.non:=hU;rw[bA rfl];refine⟨_,hs,.ref a3,rfl,?_⟩;rw[aA (λz=>nomatch z)];exact q
   |some y=>
    obtain⟨b2,k2⟩:=y;obtain⟨a4,rfl,ha4⟩:=hU;rw[aA (λz=>nomatch z)];have hs3:=OC.of (K:=K) ha3;have hs4:=OC.of (K:=K) ha4;refine⟨_,hs,.ref a3,rfl,a3,rfl,_,hs3,.int b1,rfl,_,hs2,.ref a4,rfl,a4,rfl,_,hs4,.int b2,rfl,rfl,?_⟩;have q:Q (V.bl (decide (some (b1,k1+x - R.f)=some (b2,k2)))) H:=q;by_cases c3:b1=b2
    ·rw[bA (by rw[c3])];refine⟨_,hs,.ref a3,rfl,a3,rfl,_,hs3,.int k1,rfl,_,hs,.int R.m,rfl,k1,rfl,R.m,rfl,_,hs2,.ref a4,rfl,a4,rfl,_,hs4,.int k2,rfl,rfl,?_⟩;have e:decide (V.int (k1+R.m)=V.int k2)=decide (some (b1,k1+x - R.f)=some (b2,k2)):=by
      rw[yB];simp only[kB];exact⟨λz=>by cases z;rw[c3,show k1+x - R.f=k1+R.m by omega],λz=>by cases z;rw[show k1+x - R.f=k1+R.m by omega]⟩
     rw[e];exact q
    ·rw[aA (λz=>c3 (by cases z;rfl))];rw[yA (λz=>c3 (by cases z;rfl))] at q;exact q
theorem um {rs:List Rn} {r:Rn}:jn (rs++[r])=XD (jn rs) r:=by unfold jn;rw[List.foldl_append];rfl
noncomputable def FG (rs:List Rn) (ps:List Int):List Rn:=ps.filterMap λp=>(pm rs p).map (uR p)
theorem vm {rs:List Rn} {ps:List Int} {p:Int} {g:Og} (h:pm rs p=some g):FG rs (ps++[p])=FG rs ps++[uR p g]:=by
 unfold FG;rw[List.filterMap_append];congr 1;simp[h]
theorem qd {rs:List Rn}:∀{ps:List Int},ps.Pairwise (· < ·)->HC (FG rs ps):=λ{ps} h=>by
 refine⟨?_,λr hr=>?_⟩
 ·unfold FG;rw[List.pairwise_filterMap];refine h.imp λ{a b} hab=>?_;intro x hx y hy;obtain⟨g,_,rfl⟩:=HA.mp hx;obtain⟨g',_,rfl⟩:=HA.mp hy;show a+1<=b;omega
 ·obtain⟨p,_,e⟩:=eC.mp hr;obtain⟨g,_,rfl⟩:=HA.mp e;show (0:Int) < 1;decide
theorem pP {rs:List Rn} {ps:List Int} (h:ps.Pairwise (· < ·)) (hall:∀p,pm rs p≠none->p∈ps) (p:Int):pm (FG rs ps) p=pm rs p:=by
 cases e:pm rs p with
 |some g=>
  have hm:uR p g∈FG rs ps:=eC.mpr ⟨p,hall p (by rw[e];exact λz=>nomatch z),by rw[e];rfl⟩;have:=gI (p:=p) (qd h) hm (aB _) (by show p < p+1;omega);rw[this];show some (g.1,tf (uR p g) (uR p g).f)=_;rw[EL];rfl
 |none=>
  refine SO λr hr z=>?_;obtain⟨q,_,e2⟩:=eC.mp hr;obtain⟨g,hg,rfl⟩:=HA.mp e2;have h1:q<=p:=z.1;have h2:p < q+1:=z.2;have:q=p:=⋯;rw[this,e] at hg;cases hg
theorem qP {rs:List Rn} {ps:List Int} (o:HC rs) (l:DD rs) (h:ps.Pairwise (· < ·)) (hall:∀p,pm rs p≠none->p∈ps):jn (FG rs ps)=rs:=
 have J:=VJ (qd (rs:=rs) h)
 Z9 J.ord o J.lst l λp=>by rw[J.pg,pP h hall]
inductive mK (K:W.Frag) (vs:List V) (H:Hp) (Q:VK) (E:XK):Prop where
 |mk (d:Addr) (N:Nat) (kv:Kvs) (rs:List Rn) (_:vs=[.ref d]) (_:GD H N d kv (pm rs)) (_:N < 10000) (_:HC rs) (_:DD rs) (_:∀l us H',vC H H'->H l=none->H' l=some (.lst us)->xC H' us rs->Q (.ref l) H'):mK K vs H Q E
noncomputable def rP (K:W.Frag):Sp:=mK K
theorem sP (T:AD K mg A):KD P w K mg base "_law_told_pages" 2 ["_law_mine"] [] (rP K):=by
 have N7:=@FW P w K mg base A T;refine T.Jz.have OO (λvs H Q E z=>?_) ?_
 ·obtain⟨d,N,kv,rs,rfl,_⟩:=z;rfl
 ·intro f cdv A' outer s H vs Q E hr z;obtain⟨d,N,kv,rs,rfl,hM,hN,ho,hL,q⟩:=z;refine⟨_,(NC (sD (i:=1) OO.nd rfl (Or.inl rfl) (zH uC))
   (NC (DG WA rfl (AG (SD (cI rfl) rfl T.Bb gB (pC (nC 0) uC))) (pF (i:=2) OO.nd rfl (Or.inl rfl)) (NC (sD (i:=3) OO.nd rfl (Or.inl rfl) (hG (vE hr) (nC 0) (nC 2) (λο ο=>rfl)))
   (EC (eD (PW.pt (GH (tD (aL (n:=4) (S6 hr)) (nC 1) (zH uC) (rC _)) (oI (xE (lD N7 (hr.mono (by decide)) KC (pC (MC uI (nC 1) (DM MM sC) (λο ο=>rfl)) (pC (nC 2) (pC (nC 3) uC)))))))) (NC (sD (i:=4) OO.nd rfl (Or.inl rfl) (QT PySem.F.plainAttrs_list PySem.F.slot_list_pop PySem.F.type_list_pop c5 (nC 1)))
   (EC (uE (GR PySem.F.plainAttrs_list PySem.F.slot_list_append PySem.F.type_list_append PN (nC 1) (pC (YD (pC (MC UC (nC 4) sC (λο ο=>rfl)) (pC (ZC YE (MC UC (nC 4) sC (λο ο=>rfl)) sC) (pC (MC UC (nC 4) sC (λο ο=>rfl)) (pC (MC UC (nC 4) sC (λο ο=>rfl)) uC))))) uC))))) (EC (uE (GR PySem.F.plainAttrs_list PySem.F.slot_list_append PySem.F.type_list_append PN (nC 1) (pC (YD (pC (nC 2) (pC sC (pC (MC UC (nC 3) sC (λο ο=>rfl)) (pC (MC UC (nC 3) sC (λο ο=>rfl)) uC))))) uC))))))))
   (EC (YC (nC 1))))),?_⟩
  unfold sp_go ND;rfl';obtain⟨ns,ek,nd⟩:=hM.k;have hnl:ns.length=kv.length:=by have:=congrArg List.length ek;rw[dA,dA] at this;omega
  intro p hp;have s1:=dD (o:=.lst []) (LC (H:=H)) hp;refine⟨kv,.inl (s1 _ _ hM.d),ns,ek,λl ms hl hperm hsort=>⟨⟨_,aD.of SC⟩,?_⟩⟩;have nlp:l≠p:=λz=>by rw[z,SC] at hl;cases hl
  have hst:ms.Pairwise (· < ·):=by
   have:=hsort.and (hperm.nodup_iff.mpr nd);exact this.imp λ{a b} h=>⋯
  have hmem:∀y,y∈ms↔∃v,JC kv (Sum.inl y)=some v:=λy=>by
   rw[hperm.mem_iff];constructor
   ·intro hy;have:(Sum.inl y:Key)∈cD kv:=by show _∈kv.map (·.1);rw[ek];exact xA.mpr ⟨y,hy,rfl⟩
    exact eP this
   ·rintro⟨v,hv⟩;have:=uJ hv;rw[ek] at this;obtain⟨y',hy',e⟩:=xA.mp this;rw[<-UB e];exact hy'
  have hlp:yC (yC H p (.lst [])) l (.lst (ms.map V.int)) l=some (.lst (ms.map V.int)):=SC;have hpp:yC (yC H p (.lst [])) l (.lst (ms.map V.int)) p=some (.lst []):=by rw[WC nlp.symm,SC]
  have s2:vC H (yC (yC H p (.lst [])) l (.lst (ms.map V.int))):=s1.trans (dD LC hl);have hl0:H l=none:=YV s1 hl;generalize yC (yC H p (.lst [])) l (.lst (ms.map V.int))=H1 at *;refine VI (K:=K) (xs:=ms.map V.int) (λi σ H'=>∃us v2 v3 v4,σ=[some (.ref d),some (.ref p),v2,v3,v4]/\vC H H'/\H' l=some (.lst (ms.map V.int))/\H' p=some (.lst us)/\xC H' us (jn (FG rs (ms.take i)))) ⟨[],_,_,_,rfl,s2,hlp,hpp,.nil⟩ (λi σ H' _ ⟨_,_,_,_,_,_,e,_⟩=>aD.of e) (λi v σ H' hi=>?_) (λσ H'=>?_)
  ·rintro⟨us,v2,v3,v4,rfl,s3,hl3,hp3,hR⟩;rw[UA] at hi;obtain⟨y,hy,rfl⟩:=HA.mp hi;obtain⟨u,hu⟩:=(hmem y).mp (fB hy);obtain⟨u',g,e1,e2,e3⟩|⟨e1,_⟩:=hM.v y;rotate_left
   ·rw[hu] at e1;cases e1
   rw[hu] at e1;cases e1;have ht:FG rs (ms.take (i+1))=FG rs (ms.take i)++[uR y g]:=by
    rw[xB,hy];exact vm e2
   rw[ht,um];have hul:us.length<=i:=by
    have h1:=Paired.length hR;have h2:=IS (FG rs (ms.take i)) [];have h3:(FG rs (ms.take i)).length<=(ms.take i).length:=List.length_filterMap_le ..;rw[NA] at h3;simp only[List.length_nil] at h2;have h4:(jn (FG rs (ms.take i))).length<=0+(FG rs (ms.take i)).length:=h2;omega
   have hi64:i < 10000:=by
    have h1:=(LA.mp hy).1;have h2:=hperm.length_eq;have h3:=hM.n;omega
   generalize jn (FG rs (ms.take i))=acc at *;rfl';refine⟨u,.inl ⟨kv,Sum.inl y,.inl (s3 _ _ hM.d),rfl,hu.symm⟩,λq1 hq1=>?_⟩;have s4:=dD (o:=.lst []) (LC (H:=H')) hq1;have hq4:yC H' q1 (.lst []) q1=some (.lst []):=SC;have hl4:=s4 _ _ hl3;have hp4:=s4 _ _ hp3;have hR4:=xC.same hR s4;have sH4:=s3.trans s4;have e34:=e3.tp (.of sH4);generalize yC H' q1 (.lst [])=H4 at *;obtain⟨oa,otv,rfl,hoa,hot⟩:=e34;refine⟨false,acc.map xF,[],⟨p,us,rfl,aD.of hp4,Uc hR4⟩,⟨q1,[],rfl,aD.of hq4,rfl⟩,by cases acc<;>simp[rD],by have:=(AW acc).2.2;omega,_,rfl,?_⟩;have put:∀p4,H4 p4=none->XD acc (uR y g)=acc++[uR y g]->∃x,yC H4 p4 (.tup [V.int y,V.int 1,.int g.1,otv]) p=some (HO.lst x)/\x.length < 16777216/\vC H (yC (yC H4 p4 (.tup [V.int y,V.int 1,.int g.1,otv])) p (HO.lst (x++[V.ref p4])))/\yC (yC H4 p4 (.tup [V.int y,V.int 1,.int g.1,otv])) p (HO.lst (x++[V.ref p4])) l=some (HO.lst (List.map V.int ms))/\∃x_5,HO.lst (x++[V.ref p4])=HO.lst x_5/\xC (yC (yC H4 p4 (.tup [V.int y,V.int 1,.int g.1,otv])) p (HO.lst (x++[V.ref p4]))) x_5 (XD acc (uR y g)):=λp4 hp4' ej=>by
    have se:=dD (o:=.tup [V.int y,V.int 1,.int g.1,otv]) LC hp4';have hte:=se _ _ hp4;have sme:=sH4.trans se;refine⟨us,hte,⋯,pG sme hp,by rw[WC nlp];exact se _ _ hl4,_,rfl,?_⟩;rw[ej];exact EG (xC.same2 (xC.same hR4 se) hte sme) (.cons (bD.same2 (⟨p4,otv,rfl,SC,hot.same se⟩:bD _ (.ref p4) (uR y g)) hte sme) .nil)
   rcases hacc:acc.getLast? with _|L
   ·have e0:acc=[]:=List.getLast?_eq_none_iff.mp hacc;rw[aA (by rw[e0];simp[mD])];exact CC ⟨.inl ⟨rfl,_,aD.of hp4⟩,oa,rfl,_,OC.of hoa,.int g.1,rfl,oa,rfl,_,OC.of hoa,otv,rfl,λp4 hp4'=>put p4 hp4' (by rw[e0];rfl)⟩
   ·obtain⟨acc0,rfl⟩:=VO hacc;have ene:mD ((acc0++[L]).map xF) []=false:=by cases acc0<;>simp[mD]
    rw[bA (by rw[ene];rfl)];obtain⟨us0,y0,rfl,hU0,hy0⟩:=mW hR4;refine⟨_,aD.of hp4,y0,?_,L,hy0,g,⟨oa,otv,rfl,hoa,hot⟩,?_⟩
    ·unfold gH qJ;rw[aA (by decide),bA (by rw[qA,iB];omega)];show (us0++[y0])[(-1+((us0++[y0]).length:Int)).toNat]?=some y0;rw[qA,iB,show (-1+((us0.length+1:Nat):Int)).toNat=us0.length by omega,SA (iA _),kC]
     rfl
    cases hg:go L (uR y g) with
    |false=>exact CC ⟨.inl ⟨rfl,_,aD.of hp4⟩,oa,rfl,_,OC.of hoa,.int g.1,rfl,oa,rfl,_,OC.of hoa,otv,rfl,λp4 hp4'=>put p4 hp4' (Ta hg)⟩
    |true=>
     refine qD ⟨.inl ⟨rfl,_,aD.of hp4⟩,_,hp4,y0,by rw[qA,iB,Nat.add_sub_cancel,SA (iA _),kC];rfl,?_⟩;rw[List.dropLast_concat];have hy2:bD (yC H4 p (.lst us0)) y0 L:=hy0.same2 hp4 sH4;obtain⟨c,cv,rfl,hc,hcv⟩:=id hy2;refine⟨.inl ⟨rfl,_,aD.of SC⟩,c,rfl,_,OC.of hc,_,rfl,c,rfl,_,OC.of hc,.int L.m,rfl,L.m,rfl,c,rfl,_,OC.of hc,_,rfl,c,rfl,_,OC.of hc,_,rfl,λe he=>?_⟩;have se:=dD (o:=.tup [V.int L.f,V.int (L.m+1),V.int L.r,cv]) LC he;have hte:=se _ _ (SC (H:=H4) (a:=p) (o:=.lst us0));have sme:=dD (o:=.tup [V.int L.f,V.int (L.m+1),V.int L.r,cv]) (pG (o:=.lst us0) sH4 hp) he;refine⟨us0,hte,by rw[qA,iB] at hul;omega,pG sme hp,by rw[WC nlp];exact se _ _ (by rw[WC nlp];exact hl4),_,rfl,?_⟩;rw[Ua hg];refine EG (xC.same2 (xC.same (xC.same2 hU0 hp4 sH4) se) hte sme) (.cons ?_ .nil);exact bD.same2 (⟨e,cv,rfl,SC,hcv.same se⟩:bD _ (.ref e) ⟨L.f,L.m+(uR y g).m,L.r,L.t⟩) hte sme
  ·rintro⟨us,v2,v3,v4,rfl,s3,hl3,hp3,hR⟩;rfl';rw[dA,vB,qP ho hL hst (λp hp=>(hmem p).mpr (by
    rcases hM.v p with ⟨v,g,e,_⟩|⟨_,e⟩
    ·exact⟨v,e⟩
    ·exact absurd e hp))] at hR
   exact q _ _ _ s3 hp hp3 hR
inductive An where
 |no (w:Str)
 |ok (v:V)
noncomputable def wH (H:Hp) (b:Addr):An->Prop
 |.no w=>H b=some (.tup [.str "no",.str w])
 |.ok v=>H b=some (.tup [.str "ok",v])
noncomputable def nF (bk:Kvs) (b:Option Int) (st m:Int):Option Str:=match b with
 |none=>none
 |some b=>match JC bk (Sum.inl b) with
  |some (.int i)=>if st < 0\/st+m > i then some "OutOfBank" else none
  |_=>some "NoBank"
theorem fN {b:Bool} {P Q:Prop} (h:b=true) (p:P):(if b=true then P else Q):=by rw[bA h];exact p
theorem VG {b:Bool} {P Q:Prop} (h:b=false) (p:Q):(if b=true then P else Q):=by rw[aA (by rw[h];exact nA)];exact p
theorem tP {bk:Kvs} {b i st m:Int} (hv:JC bk (Sum.inl b)=some (.int i)):nF bk (some b) st m=if st < 0\/st+m > i then some (Str.ofString "OutOfBank") else none:=by
 unfold nF;simp only[hv]
theorem sd {bk:Kvs} {b st m:Int} (hv:JC bk (Sum.inl b)=none):nF bk (some b) st m=some (Str.ofString "NoBank"):=by
 unfold nF;simp only[hv]
noncomputable def LD (pg x m:Int):Prop:=x < 0\/m < 1\/m > 64\/x+m > pg
instance {pg x m:Int}:Decidable (LD pg x m):=by unfold LD;infer_instance
noncomputable def gG (F:Int->Option Og) (r:Int) (p:Int):Option Og:=(F p).map λg=>(r,g.2)
noncomputable def gL (x r:Int) (b:Option Int) (st:Int) (p:Int):Option Og:=some (r,b.map λb=>(b,st+p - x))
noncomputable def NE (pg:Int) (F:Int->Option Og) (bk:Kvs):Dd->An×(Int->Option Og)
 |.lift _ x m=>if LD pg x m then (.no "OutOfRoom",F) else if (gD F x m.toNat:Int) < m then (.no "NotMapped",F) else (.ok .non,BD F (λο=>none) x m.toNat)
 |.guard _ x m r=>if LD pg x m then (.no "OutOfRoom",F) else if r < 0\/r > 3 then (.no "BadRights",F) else if (gD F x m.toNat:Int) < m then (.no "NotMapped",F) else (.ok .non,BD F (gG F r) x m.toNat)
 |.lay _ x m r b st=>if LD pg x m then (.no "OutOfRoom",F) else if r < 0\/r > 3 then (.no "BadRights",F) else match nF bk b st m with
  |some w=>(.no w,F)
  |none=>if 0 < gD F x m.toNat then (.no "Taken",F) else (.ok .non,BD F (gL x r b st) x m.toNat)
 |_=>(.ok .non,F)
noncomputable def Dd.pag:Dd->Prop
 |.lift .. =>True
 |.guard .. =>True
 |.lay .. =>True
 |_=>False
inductive ud (vs:List V) (H:Hp) (Q:VK) (E:XK):Prop where
 |mk (d bd a:Addr) (N:Nat) (kv bk:Kvs) (F:Int->Option Og) (pg:Int) (dd:Dd) (_:vs=[.ref d,.ref bd,.int pg,.ref a]) (_:GD H N d kv F) (_:N < 8000) (_:H bd=some (.dK bk)) (_:(∀k v,JC bk k=some v->∃i:Int,v=.int i)) (_:d≠bd) (_:vH H a dd) (_:dd.pag) (_:∀kv' H' b,GD H' (N+128) d kv' (NE pg F bk dd).2->Kd d H H'->wH H' b (NE pg F bk dd).1->Q (.ref b) H'):ud vs H Q E
noncomputable def sp_duep:Sp:=ud
theorem fM (T:AD K mg A):KD P w K mg base "_law_due_pages" 1 ["_law_mine","_law_banks","_law_pages","_law_deed_here"] [] sp_duep:=by
 refine T.K1.have TJ (λvs H Q E z=>?_) ?_
 ·obtain⟨d,bd,a,N,kv,bk,F,pg,dd,rfl,_⟩:=z;rfl
 ·intro f cdv A' outer s H vs Q E hr z;obtain⟨d,bd,a,N,kv,bk,F,pg,dd,rfl,hP,hN,hb,hbi,hne,ha,hdd,q⟩:=z;obtain⟨x,m,e2,e3,ebad⟩:∃x m:Int,dd.vs[2]?=some (.int x)/\dd.vs[3]?=some (.int m)/\(LD pg x m->NE pg F bk dd=(.no "OutOfRoom",F)):=by
   cases dd with
   |lift n x m=>exact⟨x,m,rfl,rfl,λh=>bA h⟩
   |guard n x m r=>exact⟨x,m,rfl,rfl,λh=>bA h⟩
   |lay n x m r b st=>exact⟨x,m,rfl,rfl,λh=>bA h⟩
   |_=>exact hdd.elim
  refine⟨_,(NC (sD (i:=4) TJ.nd rfl (Or.inr rfl) (MC UC (nC 3) sC (λο ο=>rfl)))
   (NC (sD (i:=5) TJ.nd rfl (Or.inl rfl) (MC UC (nC 3) sC (λο ο=>rfl)))
   (OD (eD (PW.pt (HH (tD UF (nC 4) sC (rC _)) (HH (tD UF (nC 5) sC (rC _)) (HH (tD fH (nC 5) sC (rC _)) (HI (tD fH (ZC YE (nC 4) (nC 5)) (nC 2) (rC _))))))) (EC (YC (YD (pC wD (pC wD uC))))) fD)
   (OD (NR (i:=6) TJ.nd rfl rfl rfl (BM rfl T.B4 (pC (nC 5) uC)) (x:="_law_k") (fs:=["_law_first"]) (ix:=[4]) rfl rfl (λο ο ο ο ο ο=>(pF (i:=0) (show (["_law_k","_law_first"]:List Str).Nodup by decide+kernel) rfl (Or.inl rfl))) (λο ο ο ο ο ο=>lO) (λο ο ο ο ο ο=>(ZC YE (nC 1) (nC 0))))
   (OD (sD (i:=7) TJ.nd rfl (Or.inl rfl) (SD KI rfl T.Ba PySem.boot_len (pC (mO rfl (AG (nC 6)) (x:="_law_page") (fs:=["_law_mine"]) (ix:=[0]) rfl rfl (λο ο ο ο ο ο=>(pF (i:=0) (show (["_law_page","_law_mine"]:List Str).Nodup by decide+kernel) rfl (Or.inl rfl))) (λο ο ο ο ο ο=>(MR (nI (VN (vE hr) (nC 0) (nC 1))))) (λο ο ο ο ο ο=>(nC 0))) uC)))
   (OD (eD (tD pE (MC UC (nC 3) sC (λο ο=>rfl)) wD (rC _)) (NC (eD (tD UF (nC 7) (nC 5) (rC _)) (EC (YC (YD (pC wD (pC wD uC))))) fD)
   (NC (DG WA rfl (AG (nC 6)) (pF (i:=8) TJ.nd rfl (Or.inl rfl)) (EC (uE (XN (nC 0) (nC 8) ⟨rfl,rfl,rfl,rfl⟩))))
   (EC (YC (YD (pC wD (pC XE uC))))))) fD)
   (OD (eD (PW.pt (HH (tD UF (MC UC (nC 3) sC (λο ο=>rfl)) sC (rC _)) (HI (tD fH (MC UC (nC 3) sC (λο ο=>rfl)) sC (rC _))))) (EC (YC (YD (pC wD (pC wD uC))))) fD)
   (OD (eD (tD pE (MC UC (nC 3) sC (λο ο=>rfl)) wD (rC _)) (NC (eD (tD UF (nC 7) (nC 5) (rC _)) (EC (YC (YD (pC wD (pC wD uC))))) fD)
   (NC (DG WA rfl (AG (nC 6)) (pF (i:=8) TJ.nd rfl (Or.inl rfl)) (EC (QI (vE hr) (nC 0) (nC 8) (YD (pC (MC UC (nC 3) sC (λο ο=>rfl)) (pC (MC UC (hG (vE hr) (nC 0) (nC 8) (λο ο=>rfl)) sC (λο ο=>rfl)) uC))) rfl)))
   (EC (YC (YD (pC wD (pC XE uC))))))) fD)
   (OD (eD (tD HN (MC UC (nC 3) sC (λο ο=>rfl)) XE (rC _)) (NC (eD (nI (WN (vE hr) (MC UC (nC 3) sC (λο ο=>rfl)) (nC 1))) (EC (YC (YD (pC wD (pC wD uC))))) fD)
   (EC (eD (PW.pt (HH (tD UF (MC UC (nC 3) sC (λο ο=>rfl)) sC (rC _)) (HI (tD fH (ZC YE (MC UC (nC 3) sC (λο ο=>rfl)) (nC 5)) (hG (vE hr) (nC 1) (MC UC (nC 3) sC (λο ο=>rfl)) (λο ο=>rfl)) (rC _))))) (EC (YC (YD (pC wD (pC wD uC))))) fD))) fD)
   (OD (eD (tD fH (nC 7) sC (rC _)) (EC (YC (YD (pC wD (pC wD uC))))) fD)
   (OD (DG WA rfl (AG (nC 6)) (pF (i:=8) TJ.nd rfl (Or.inl rfl)) (NC (QI (vE hr) (nC 0) (nC 8) (YD (pC (MC UC (nC 3) sC (λο ο=>rfl)) (pC XE uC))) rfl)
   (EC (eD (tD HN (MC UC (nC 3) sC (λο ο=>rfl)) XE (rC _)) (EC (QI (vE hr) (nC 0) (nC 8) (YD (pC (MC UC (nC 3) sC (λο ο=>rfl)) (pC (YD (pC (MC UC (nC 3) sC (λο ο=>rfl)) (pC (ZC YG (ZC YE (MC UC (nC 3) sC (λο ο=>rfl)) (nC 8)) (nC 4)) uC))) uC))) rfl)) fD))))
   (EC (YC (YD (pC wD (pC XE uC)))))))))))))))),?_⟩
  rfl';refine⟨_,OC.of ha,_,JD (j:=2) e2,_,OC.of ha,_,JD (j:=3) e3,?_⟩;refine RC (λσ G=>σ=[some (.ref d),some (.ref bd),some (.int pg),some (.ref a),some (.int x),some (.int m),none,none,none]/\G=H/\¬LD pg x m) ?_ λU9 D9 hU9 hD9 σ1 H1=>?_
  ·rfl';have qb:LD pg x m->∀p,H p=none->Q (.ref p) (yC H p (.tup [V.str "no",V.str "OutOfRoom"])):=λhb9 p hp=>by
    have e9:=ebad hb9;refine q kv _ p ?_ (Kd.of (dD LC hp)) ?_
    ·rw[e9];exact (hP.le ⋯).same (dD LC hp)
    ·rw[e9];exact SC
   refine VC (λc9=>qb (.inl c9)) (λc1=>VC (λc9=>qb (.inr (.inl c9))) (λc2=>VC (λc9=>qb (.inr (.inr (.inl c9)))) (λc3=>VC (λc9=>qb (.inr (.inr (.inr c9)))) (λc4=>?_))));unfold LD;omega
  rintro⟨rfl,rfl,hnb⟩;subst hU9 hD9;have hnb':0<=x/\1<=m/\m<=64/\x+m<=pg:=by unfold LD at hnb;omega
  refine RC (λσ G=>∃so,σ=[some (.ref d),some (.ref bd),some (.int pg),some (.ref a),some (.int x),some (.int m),some (.ref so),none,none]/\vC H1 G/\G so=some (.lst ((List.range m.toNat).map λ(k:Nat)=>V.int (x+(k:Int))))) ?_ λU9 D9 hU9 hD9 σ2 H2=>?_
  ·rfl';refine⟨⋯,⋯,λD hD=>ii (λi ys σ H'=>∃v,σ=[v,some (.int x)]/\vC H1 H'/\H' D=some (.lst ys)/\ys=(List.range i).map λ(k:Nat)=>V.int (x+(k:Int))) ⟨_,rfl,dD LC hD,SC,rfl⟩ (λi ys σ H' hi=>?_) (λys σ H'=>?_)⟩
   ·rintro⟨v,rfl,s1,hD1,rfl⟩;rfl';exact⟨hD1,by rw[dA,CB];omega,pG s1 hD,by rw[List.range_succ,KA,Int.zero_add];rfl⟩
   ·rintro⟨v,rfl,s1,hD1,rfl⟩;exact⟨s1,hD1⟩
  rintro⟨so,rfl,s2,so2⟩;subst hU9 hD9;refine RC (λσ G=>σ=[some (.ref d),some (.ref bd),some (.int pg),some (.ref a),some (.int x),some (.int m),some (.ref so),some (.int (gD F x m.toNat:Nat)),none]/\vC H1 G/\G so=some (.lst ((List.range m.toNat).map λ(k:Nat)=>V.int (x+(k:Int))))) ?_ λU9 D9 hU9 hD9 σ3 H3=>?_
  ·rfl';refine⟨⟨_,aD.of so2⟩,λD hD=>bL (xs:=(List.range m.toNat).map λ(k:Nat)=>V.int (x+(k:Int))) (λi ys σ H'=>∃v,σ=[v,some (.ref d)]/\vC H2 H'/\H' D=some (.lst ys)/\ys.length=gD F x i) ⟨_,rfl,dD LC hD,SC,rfl⟩ (λi ys σ H' _ ⟨_,_,e,_⟩=>aD.of (e _ _ so2)) (λi v ys σ H' hi=>?_) (λys σ H'=>?_)⟩
   ·rintro⟨v',rfl,s5,hD5,hl5⟩;rw[UA] at hi;obtain⟨k,hk,rfl⟩:=HA.mp hi;have hil:=(LA.mp hk).1;rw[CB] at hil;rw[List.getElem?_range hil] at hk;obtain rfl:i=k:=FA hk;have hcl:=dN (F:=F) (x:=x) (k:=i);have hP5:=hP.same (s2.trans s5);unfold jH;rfl';refine⟨JC kv (Sum.inl (x+(i:Int))),.inl ⟨kv,Sum.inl (x+(i:Int)),.inl hP5.d,rfl,rfl⟩,?_⟩;have hin:=hP.inn (x+(i:Int));have hs:=VS (F:=F) (x:=x) (k:=i);cases hv:JC kv (Sum.inl (x+(i:Int))) with
    |none=>
     rw[hv] at hin;rw[aA (by rw[<-hin];exact nA)] at hs;exact CC ⟨s5,hD5,by rw[hl5,hs];rfl⟩
    |some u=>
     rw[hv] at hin;rw[bA (by rw[<-hin];rfl)] at hs;exact qD ⟨hD5,⋯,pG s5 hD,by rw[qA,hl5,hs];rfl⟩
   ·rintro⟨v',rfl,s5,hD5,hl5⟩;rw[dA,CB] at hl5;exact⟨_,.inl ⟨_,aD.of hD5,rfl⟩,by rw[hl5],s2.trans s5,s5 _ _ so2⟩
  rintro⟨rfl,s3,so3⟩;subst hU9 hD9;have hP3:=hP.same s3;have ha3:=s3 _ _ ha;have hb3:=s3 _ _ hb;have qno:∀(w9:Str),NE pg F bk dd=(.no w9,F)->∀p,H3 p=none->Q (.ref p) (yC H3 p (.tup [V.str "no",V.str w9])):=λw9 e9 p hp=>by
   refine q kv _ p ?_ (Kd.of (s3.trans (dD LC hp))) ?_
   ·rw[e9];exact (hP3.le ⋯).same (dD LC hp)
   ·rw[e9];exact SC
  cases dd with
  |lift n x' m'=>
   obtain rfl:x'=x:=V.int.inj (FA e2);obtain rfl:m'=m:=V.int.inj (FA e3);refine⟨λσ G=>False,?_,λσ4 H4=>λz=>z.elim⟩;rfl';have ep:NE pg F bk (.lift n x' m')=if (gD F x' m'.toNat:Int) < m' then (.no "NotMapped",F) else (.ok .non,BD F (λο=>none) x' m'.toNat):=aA hnb
   refine⟨_,OC.of ha3,.str "lift",rfl,rfl,?_⟩;rw[bA rfl];refine VC (λc9=>qno _ (by rw[ep,bA c9])) (λc9=>⟨⟨_,aD.of so3⟩,?_⟩);rw[aA c9] at ep;have hall:=(WS (F:=F) (x:=x') (k:=m'.toNat)).mp (by have:=dN (F:=F) (x:=x') (k:=m'.toNat);omega);refine VI (K:=K) (xs:=(List.range m'.toNat).map λ(k:Nat)=>V.int (x'+(k:Int))) (λi σ H'=>∃v kv',σ=[some (.ref d),some (.ref bd),some (.int pg),some (.ref a),some (.int x'),some (.int m'),some (.ref so),some (.int (gD F x' m'.toNat:Nat)),v]/\Kd d H3 H'/\GD H' N d kv' (BD F (λο=>none) x' i)) ⟨_,kv,rfl,Kd.of LC,by rw[DW];exact hP3⟩ (λi σ H' _ ⟨_,_,_,k,_⟩=>aD.of (k _ _ so3 (OE so3 hP3.d (λz=>nomatch z)))) (λi v σ H' hi=>?_) (λσ H'=>?_)
   ·rintro⟨v0,kv',rfl,k4,P4⟩;rw[UA] at hi;obtain⟨k,hk,rfl⟩:=HA.mp hi;have hil:=(LA.mp hk).1;rw[CB] at hil;rw[List.getElem?_range hil] at hk;obtain rfl:i=k:=FA hk;unfold jF;rfl';obtain⟨u,g,u1,u2,u3⟩|⟨_,u2⟩:=P4.v (x'+(i:Int));rotate_left
    ·rw[EW] at u2;exact absurd u2 (hall _ ⋯ ⋯)
    refine⟨.inl ⟨kv',.inl P4.d⟩,kv',P4.d,Sum.inl (x'+(i:Int)),rfl,u,u1,k4.trans cG,nD kv' (Sum.inl (x'+(i:Int))),?_⟩;rw[<-US (F:=F) (G:=λο=>none) (x:=x') (k:=i) rfl];exact P4.drop (Tp.kd P4.d (λο z=>nomatch z) cG) SC
   ·rintro⟨v0,kv',rfl,k4,P4⟩;rfl';rw[dA,CB] at P4;intro p hp;refine q kv' _ p ?_ ((Kd.of s3).trans (k4.trans (Kd.of (dD LC hp)))) ?_
    ·rw[ep];exact (P4.le ⋯).same (dD LC hp)
    ·rw[ep];exact SC
  |guard n x' m' r=>
   obtain rfl:x'=x:=V.int.inj (FA e2);obtain rfl:m'=m:=V.int.inj (FA e3);refine RC (λσ G=>σ=[some (.ref d),some (.ref bd),some (.int pg),some (.ref a),some (.int x'),some (.int m'),some (.ref so),some (.int (gD F x' m'.toNat:Nat)),none]/\G=H3) ?_ λU9 D9 hU9 hD9 σ4 H4=>?_
   ·rfl';exact⟨_,OC.of ha3,.str "guard",rfl,rfl,by rw[aA ∅];trivial⟩
   rintro⟨rfl,rfl⟩;subst hU9 hD9;have ep:NE pg F bk (.guard n x' m' r)=if r < 0\/r > 3 then (.no "BadRights",F) else if (gD F x' m'.toNat:Int) < m' then (.no "NotMapped",F) else (.ok .non,BD F (gG F r) x' m'.toNat):=aA hnb
   refine RC (λσ G=>σ=[some (.ref d),some (.ref bd),some (.int pg),some (.ref a),some (.int x'),some (.int m'),some (.ref so),some (.int (gD F x' m'.toNat:Nat)),none]/\G=H4/\¬(r < 0\/r > 3)) ?_ λU9 D9 hU9 hD9 σ5 H5=>?_
   ·rfl';exact⟨_,OC.of ha3,.int r,JD (j:=4) rfl,r,rfl,VC (λc=>qno _ (by rw[ep,bA (.inl c)])) (λc1=>⟨_,OC.of ha3,.int r,JD (j:=4) rfl,r,rfl,VC (λc=>qno _ (by rw[ep,bA (.inr c)])) (λc2=>⋯)⟩)⟩
   rintro⟨rfl,rfl,hr3⟩;subst hU9 hD9;rw[aA hr3] at ep;refine⟨λσ G=>False,?_,λσ4 H4=>λz=>z.elim⟩;rfl';refine⟨_,OC.of ha3,.str "guard",rfl,rfl,?_⟩;rw[bA rfl];refine VC (λc9=>qno _ (by rw[ep,bA c9])) (λc9=>⟨⟨_,aD.of so3⟩,?_⟩);rw[aA c9] at ep;have hall:=(WS (F:=F) (x:=x') (k:=m'.toNat)).mp (by have:=dN (F:=F) (x:=x') (k:=m'.toNat);omega);refine VI (K:=K) (xs:=(List.range m'.toNat).map λ(k:Nat)=>V.int (x'+(k:Int))) (λi σ H'=>∃v kv',σ=[some (.ref d),some (.ref bd),some (.int pg),some (.ref a),some (.int x'),some (.int m'),some (.ref so),some (.int (gD F x' m'.toNat:Nat)),v]/\Kd d H5 H'/\GD H' (N+i) d kv' (BD F (gG F r) x' i)) ⟨_,kv,rfl,Kd.of LC,by rw[DW];exact hP3⟩ (λi σ H' _ ⟨_,_,_,k,_⟩=>aD.of (k _ _ so3 (OE so3 hP3.d (λz=>nomatch z)))) (λi v σ H' hi=>?_) (λσ H'=>?_)
   ·rintro⟨v0,kv',rfl,k4,P4⟩;rw[UA] at hi;obtain⟨k,hk,rfl⟩:=HA.mp hi;have hil:=(LA.mp hk).1;rw[CB] at hil;rw[List.getElem?_range hil] at hk;obtain rfl:i=k:=FA hk;have ha4:=k4 _ _ ha3 (OE ha3 hP3.d (λz=>nomatch z));obtain⟨u,g,u1,u2,u3⟩|⟨_,u2⟩:=P4.v (x'+(i:Int));rotate_left
    ·rw[EW] at u2;exact absurd u2 (hall _ ⋯ ⋯)
    rw[EW] at u2;unfold ND aF;rfl';obtain⟨pa,tv,rfl,hpa,htv⟩:=id u3;refine⟨_,OC.of ha4,.int r,JD (j:=4) rfl,_,.inl ⟨kv',Sum.inl (x'+(i:Int)),.inl P4.d,rfl,u1.symm⟩,pa,rfl,_,OC.of hpa,tv,JD (j:=1) rfl,λp hp=>?_⟩;have sm:=dD (o:=.tup [.int r,tv]) (LC (H:=H')) hp;have P5:=P4.same sm;refine⟨_,.inl ⟨kv',Sum.inl (x'+(i:Int)),P5.d,rfl,by have:=P4.n;have:=PySem.sizeLine_eq;omega,rfl⟩,k4.trans ((Kd.of sm).trans cG),ED kv' (Sum.inl (x'+(i:Int))) (.ref p),?_⟩;rw[<-US (F:=F) (G:=gG F r) (x:=x') (k:=i) (o:=some (r,g.2)) (by unfold gG;rw[u2];rfl)];have tp5:=Tp.kd P5.d (λο z=>nomatch z) (cG (o:=.dK (ED kv' (Sum.inl (x'+(i:Int))) (.ref p))));exact P5.put tp5 SC (fF.tp (g:=(r,g.2)) ⟨p,tv,rfl,SC,htv.tp (.of sm)⟩ tp5)
   ·rintro⟨v0,kv',rfl,k4,P4⟩;rfl';rw[dA,CB] at P4;intro p hp;refine q kv' _ p ?_ ((Kd.of s3).trans (k4.trans (Kd.of (dD LC hp)))) ?_
    ·rw[ep];exact (P4.le ⋯).same (dD LC hp)
    ·rw[ep];exact SC
  |lay n x' m' r b st=>
   obtain rfl:x'=x:=V.int.inj (FA e2);obtain rfl:m'=m:=V.int.inj (FA e3);have ep:NE pg F bk (.lay n x' m' r b st)=if r < 0\/r > 3 then (.no "BadRights",F) else match nF bk b st m' with
    |some w=>(.no w,F)
    |none=>if 0 < gD F x' m'.toNat then (.no "Taken",F) else (.ok .non,BD F (gL x' r b st) x' m'.toNat):=aA hnb
   refine RC (λσ G=>σ=[some (.ref d),some (.ref bd),some (.int pg),some (.ref a),some (.int x'),some (.int m'),some (.ref so),some (.int (gD F x' m'.toNat:Nat)),none]/\G=H3) ?_ λU9 D9 hU9 hD9 σ4 H4=>?_
   ·rfl';exact⟨_,OC.of ha3,.str "lay",rfl,rfl,by rw[aA ∅];trivial⟩
   rintro⟨rfl,rfl⟩;subst hU9 hD9;refine RC (λσ G=>σ=[some (.ref d),some (.ref bd),some (.int pg),some (.ref a),some (.int x'),some (.int m'),some (.ref so),some (.int (gD F x' m'.toNat:Nat)),none]/\G=H4/\¬(r < 0\/r > 3)) ?_ λU9 D9 hU9 hD9 σ5 H5=>?_
   ·rfl';exact⟨_,OC.of ha3,.int r,JD (j:=4) rfl,r,rfl,VC (λc=>qno _ (by rw[ep,bA (.inl c)])) (λc1=>⟨_,OC.of ha3,.int r,JD (j:=4) rfl,r,rfl,VC (λc=>qno _ (by rw[ep,bA (.inr c)])) (λc2=>⋯)⟩)⟩
   rintro⟨rfl,rfl,hr3⟩;subst hU9 hD9;rw[aA hr3] at ep;refine RC (λσ G=>σ=[some (.ref d),some (.ref bd),some (.int pg),some (.ref a),some (.int x'),some (.int m'),some (.ref so),some (.int (gD F x' m'.toNat:Nat)),none]/\G=H5) ?_ λU9 D9 hU9 hD9 σ6 H6=>?_
   ·rfl';exact⟨_,OC.of ha3,.str "lay",rfl,rfl,by rw[aA ∅];trivial⟩
   rintro⟨rfl,rfl⟩;subst hU9 hD9;refine RC (λσ G=>σ=[some (.ref d),some (.ref bd),some (.int pg),some (.ref a),some (.int x'),some (.int m'),some (.ref so),some (.int (gD F x' m'.toNat:Nat)),none]/\G=H6/\nF bk b st m'=none) ?_ λU9 D9 hU9 hD9 σ7 H7=>?_
   ·unfold FE ND;rfl';cases b with
    |none=>exact⟨_,OC.of ha3,.non,JD (j:=5) rfl,VG (by rw[kA rfl];rfl) rfl⟩
    |some b'=>
     refine⟨_,OC.of ha3,.int b',JD (j:=5) rfl,fN (by rw[yA (λz=>nomatch z)];rfl) ⟨_,OC.of ha3,.int b',JD (j:=5) rfl,JC bk (Sum.inl b'),.inl ⟨bk,Sum.inl b',.inl hb3,rfl,rfl⟩,?_⟩⟩;cases hv:JC bk (Sum.inl b') with
     |none=>exact fN rfl (qno _ (by rw[ep,sd hv]))
     |some u=>
      obtain⟨i,rfl⟩:=hbi _ _ hv;refine VG (by simp) ⟨_,OC.of ha3,.int st,JD (j:=6) rfl,st,rfl,VC (λc=>qno _ (by rw[ep,tP hv,bA (.inl c)])) (λc1=>⟨_,OC.of ha3,.int st,JD (j:=6) rfl,st,rfl,_,OC.of ha3,.int b',JD (j:=5) rfl,.int i,.inl ⟨bk,Sum.inl b',.inl hb3,rfl,hv.symm⟩,i,rfl,VC (λc=>qno _ (by rw[ep,tP hv,bA (.inr c)])) (λc2=>?_)⟩)⟩;rw[tP hv];exact aA ⋯
   rintro⟨rfl,rfl,hbw⟩;subst hU9 hD9;rw[hbw] at ep;refine RC (λσ G=>σ=[some (.ref d),some (.ref bd),some (.int pg),some (.ref a),some (.int x'),some (.int m'),some (.ref so),some (.int (gD F x' m'.toNat:Nat)),none]/\G=H7/\¬0 < gD F x' m'.toNat) ?_ λU9 D9 hU9 hD9 σ8 H8=>?_
   ·rfl';exact VC (λc=>qno _ (by rw[ep];exact bA ⋯)) (λc=>⋯)
   rintro⟨rfl,rfl,h0⟩;subst hU9 hD9;have ep:NE pg F bk (.lay n x' m' r b st)=(.ok .non,BD F (gL x' r b st) x' m'.toNat):=by rw[ep];exact aA h0
   refine RC (λσ G=>∃v kv',σ=[some (.ref d),some (.ref bd),some (.int pg),some (.ref a),some (.int x'),some (.int m'),some (.ref so),some (.int (gD F x' m'.toNat:Nat)),v]/\Kd d H8 G/\GD G (N+2 * m'.toNat) d kv' (BD F (gL x' r b st) x' m'.toNat)) ?_ λU9 D9 hU9 hD9 σ9 H9=>?_
   ·rfl';refine⟨⟨_,aD.of so3⟩,VI (K:=K) (xs:=(List.range m'.toNat).map λ(k:Nat)=>V.int (x'+(k:Int))) (λi σ H'=>∃v kv',σ=[some (.ref d),some (.ref bd),some (.int pg),some (.ref a),some (.int x'),some (.int m'),some (.ref so),some (.int (gD F x' m'.toNat:Nat)),v]/\Kd d H8 H'/\GD H' (N+2 * i) d kv' (BD F (gL x' r b st) x' i)) ⟨_,kv,rfl,Kd.of LC,by rw[DW];exact hP3⟩ (λi σ H' _ ⟨_,_,_,k,_⟩=>aD.of (k _ _ so3 (OE so3 hP3.d (λz=>nomatch z)))) (λi v σ H' hi=>?_) (λσ H'=>?_)⟩
    ·rintro⟨v0,kv',rfl,k4,P4⟩;rw[UA] at hi;obtain⟨k,hk,rfl⟩:=HA.mp hi;have hil:=(LA.mp hk).1;rw[CB] at hil;rw[List.getElem?_range hil] at hk;obtain rfl:i=k:=FA hk;have ha4:=k4 _ _ ha3 (OE ha3 hP3.d (λz=>nomatch z));unfold aF;rfl';have hsz:=PySem.sizeLine_eq;have hn4:=P4.n;refine⟨_,OC.of ha4,.int r,JD (j:=4) rfl,λp hp=>?_⟩;have sm:=dD (o:=.tup [.int r,.non]) (LC (H:=H')) hp;have P5:=P4.same sm;have tp5:=Tp.kd P5.d (λο z=>nomatch z) (cG (o:=.dK (ED kv' (Sum.inl (x'+(i:Int))) (.ref p))));have P6:=P5.put (x:=x'+(i:Int)) tp5 SC (fF.tp (g:=(r,none)) ⟨p,.non,rfl,SC,rfl⟩ tp5);have ha6:=tp5 a _ (sm _ _ ha4);have k6:=k4.trans ((Kd.of sm).trans (cG (o:=.dK (ED kv' (Sum.inl (x'+(i:Int))) (.ref p)))));refine⟨_,.inl ⟨kv',Sum.inl (x'+(i:Int)),P5.d,rfl,⋯,rfl⟩,?_⟩;generalize yC (yC H' p _) d _=X at *;refine⟨_,OC.of ha6,bV b,JD (j:=5) rfl,?_⟩;cases b with
     |none=>
      refine VG (by rw[show bV none=V.non from rfl,kA rfl];rfl) ⟨k6,ED kv' (Sum.inl (x'+(i:Int))) (.ref p),?_⟩;rw[<-US (F:=F) (G:=gL x' r none st) (x:=x') (k:=i) (o:=some (r,none)) rfl];exact P6.le ⋯
     |some b'=>
      refine fN (by rw[yA (λz=>nomatch z)];rfl) ⟨_,OC.of ha6,.int r,JD (j:=4) rfl,_,OC.of ha6,.int b',JD (j:=5) rfl,_,OC.of ha6,.int st,JD (j:=6) rfl,st,rfl,λp2 hp2 p3 hp3=>?_⟩;have sm2:=dD (o:=.tup [.int b',.int (st+(x'+(i:Int)) - x')]) (LC (H:=X)) hp2;have sm3:=dD (o:=.tup [.int r,.ref p2]) (LC (H:=yC X p2 (.tup [.int b',.int (st+(x'+(i:Int)) - x')]))) hp3;have P7:=(P6.same sm2).same sm3;have hn7:=P7.n;have hT:vD (yC (yC X p2 (.tup [.int b',.int (st+(x'+(i:Int)) - x')])) p3 (.tup [.int r,.ref p2])) (.ref p2) (some (b',st+(x'+(i:Int)) - x')):=⟨p2,rfl,sm3 _ _ SC⟩
      have k7:=k6.trans ((Kd.of sm2).trans (Kd.of sm3));have hp33:yC (yC X p2 (.tup [.int b',.int (st+(x'+(i:Int)) - x')])) p3 (.tup [.int r,.ref p2]) p3=some (.tup [.int r,.ref p2]):=SC;generalize yC (yC X p2 _) p3 _=Y at *;have tp7:=Tp.kd P7.d (λο z=>nomatch z) (cG (o:=.dK (ED (ED kv' (Sum.inl (x'+(i:Int))) (.ref p)) (Sum.inl (x'+(i:Int))) (.ref p3))));refine⟨_,.inl ⟨_,Sum.inl (x'+(i:Int)),P7.d,rfl,⋯,rfl⟩,k7.trans cG,ED (ED kv' (Sum.inl (x'+(i:Int))) (.ref p)) (Sum.inl (x'+(i:Int))) (.ref p3),?_⟩;have P8:=P7.put (x:=x'+(i:Int)) tp7 SC (fF.tp (g:=(r,some (b',st+(x'+(i:Int)) - x'))) ⟨p3,.ref p2,rfl,hp33,hT⟩ tp7);rw[<-US (F:=F) (G:=gL x' r (some b') st) (x:=x') (k:=i) (o:=some (r,some (b',st+(x'+(i:Int)) - x'))) rfl];have ef:(λy=>if y=x'+(i:Int) then some (r,some (b',st+(x'+(i:Int)) - x')) else if y=x'+(i:Int) then some ((r,none):Og) else BD F (gL x' r (some b') st) x' i y)=λy=>if y=x'+(i:Int) then some (r,some (b',st+(x'+(i:Int)) - x')) else BD F (gL x' r (some b') st) x' i y:=funext λy=>by
       by_cases c:y=x'+(i:Int)
       ·rw[bA c,bA c]
       ·rw[aA c,aA c,aA c]
      rw[<-ef];exact P8.le ⋯
    ·rintro⟨v0,kv',rfl,k4,P4⟩;rw[dA,CB] at P4;exact⟨_,rfl,k4,kv',P4⟩
   rintro⟨v9,kv',rfl,k4,P4⟩;subst hU9 hD9;rfl';intro p hp;refine q kv' _ p ?_ ((Kd.of s3).trans (k4.trans (Kd.of (dD LC hp)))) ?_
   ·rw[ep];exact (P4.le ⋯).same (dD LC hp)
   ·rw[ep];exact SC
  |_=>exact hdd.elim
theorem vd {ns:List Int} {v:V} {k:Key}:∀{kv:Kvs} {ns:List Int},kv.map (·.1)=ns.map Sum.inl->ns.Nodup->(k,v)∈kv->JC kv k=some v
 |[],_,_,_,h=>by simp at h
 |q::r,[],e,_,_=>by simp at e
 |q::r,x::xs,e,nd,h=>by
  have e1:q.1=Sum.inl x:=by simpa using (List.cons.inj e).1
  have e2:=(List.cons.inj e).2;rw[qB] at nd;rcases wA.mp h with rfl|h
  ·exact LG rfl
  ·rw[CG (λz=>?_)]
   ·exact vd (ns:=ns) e2 nd.2 h
   ·have:k∈r.map (·.1):=xA.mpr ⟨_,h,rfl⟩;rw[<-z,e1,e2] at this;obtain⟨y,hy,ey⟩:=xA.mp this;exact nd.1 (by rw[<-UB ey];exact hy)
theorem yd {CX:CXT} {P:Program} {w:World} {K:W.Frag} {mg:Str->Option Value} {base:Heap} {N:List Str} {qual:Str} {scope:Scope} {f:Addr} {cd:Value} {A:Around} {outer:List Env} {s:Shared} {H:Hp} {E:XK}:(iE CX P w K mg base N qual scope f cd A outer s H E).H₀=H:=rfl
set_option genInjectivity false in
structure Lt where
 n:Int
 d:Addr
 kv:Kvs
 F:Int->Option Og
noncomputable def ltK (l:Lt):Key×V:=(Sum.inl l.n,.ref l.d)
noncomputable def gM (F:Int->Option Og) (b:Int):Prop:=∃p r j,F p=some (r,some (b,j))
inductive zd (vs:List V) (H:Hp) (Q:VK) (E:XK):Prop where
 |mk (td:Addr) (ls:List Lt) (N:Nat) (b:Int) (B:Bool) (_:vs=[.ref td,.int b]) (_:H td=some (.dK (ls.map ltK))) (_:(∀l∈ls,GD H N l.d l.kv l.F/\l.d≠td)) (_:(B=true↔∃l∈ls,gM l.F b)) (_:∀H',vC H H'->Q (.bl B) H'):zd vs H Q E
noncomputable def sp_ltd:Sp:=zd
theorem wm (T:AD K mg A):KD P w K mg base "_law_tied" 1 ["_law_tasks","_law_bank"] [] sp_ltd:=by
 refine T.Pu.have OV (λvs H Q E z=>?_) ?_
 ·obtain⟨rd,ls,N,b,B,rfl,_⟩:=z;rfl
 ·intro f cdv A' outer s H vs Q E hr z;obtain⟨rd,ls,N,b,B,rfl,hrd,hv,hB,q⟩:=z;refine⟨_,(NC (m7 (DG WA rfl (nU (mU (nC 0))) (pF (i:=2) OV.nd rfl (Or.inl rfl)) (EC (m7 (DG WA rfl (nU (mU (nC 2))) (pF (i:=3) OV.nd rfl (Or.inl rfl)) (EC (eD (PW.pt (GH (tD HN (MC UC (nC 3) sC (λο ο=>rfl)) XE (rC _)) (oI (tD pE (MC UC (MC UC (nC 3) sC (λο ο=>rfl)) sC (λο ο=>rfl)) (nC 1) (rC _))))) (EC (YC oG)) fD)))))))
   (EC (YC oG))),?_⟩
  unfold CJ;rfl';refine⟨rd,(λo u=>by rw[yd,hrd];exact λz=>nomatch z),_,hrd,λv0 hv0=>⟨rd,rfl,ls.map ltK,(dD LC hv0) _ _ hrd,λo=>?_⟩⟩;have hk0:Kd rd H (yC (yC H v0 (bF v0 rd)) rd (.frz o (.dK (ls.map ltK)))):=λc u h hc=>by rw[WC hc];exact (dD LC hv0) _ _ h
  have thr:∀{H':Hp},Kd rd H H'->H' rd=some (.frz o (.dK (ls.map ltK)))->vC H (gE rd H'):=λk1 hf c u h=>by
   rw[kU hf];by_cases e:c=rd
   ·rw[e,SC,<-hrd,<-e];exact h
   ·rw[WC e];exact k1 c u h e
  refine Z7 (λi σ H'=>∃v2 v3,σ=[some (.ref rd),some (.int b),v2,v3]/\Kd rd H H'/\H' rd=some (.frz o (.dK (ls.map ltK)))/\∀j,j < i->∀l,ls[j]?=some l->¬gM l.F b) ⟨_,_,rfl,hk0,SC,λj hj=>absurd hj ⋯⟩ (λi σ H' _ ⟨_,_,_,_,e,_⟩=>e) (λi k v σ H' hi=>?_) (λσ H'=>?_)
  ·rintro⟨v2,v3,rfl,k1,hf,hno⟩;rw[UA] at hi;obtain⟨l,hl,el⟩:=HA.mp hi;cases el;obtain⟨hP,hne⟩:=hv l (fB hl);have hd:=hP.d;have hd1:=k1 _ _ hd hne;rfl';refine⟨l.d,(λo u=>by rw[yd,hd];exact λz=>nomatch z),?_⟩;refine⟨l.kv,hd1,λw0 hw0=>⟨l.d,rfl,l.kv,(dD LC hw0) _ _ hd1,λo2=>?_⟩⟩;have hk2:Kd l.d H' (yC (yC H' w0 (bF w0 l.d)) l.d (.frz o2 (.dK l.kv))):=λc u h hc=>by rw[WC hc];exact (dD LC hw0) _ _ h
   have thd:∀{H2:Hp},Kd l.d H' H2->H2 l.d=some (.frz o2 (.dK l.kv))->vC H' (gE l.d H2):=λk3 hf2 c u h=>by
    rw[kU hf2];by_cases e:c=l.d
    ·rw[e,SC,<-hd1,<-e];exact h
    ·rw[WC e];exact k3 c u h e
   refine Z7 (λj σ H2=>∃v3,σ=[some (.ref rd),some (.int b),some (.ref l.d),v3]/\Kd l.d H' H2/\H2 l.d=some (.frz o2 (.dK l.kv))/\∀m,m < j->∀p v',l.kv[m]?=some (Sum.inl p,v')->∀r j',l.F p≠some (r,some (b,j'))) ⟨_,rfl,hk2,SC,λm hm=>absurd hm ⋯⟩ (λi σ H2 _ ⟨_,_,_,e,_⟩=>e) (λj k' v' σ H2 hj=>?_) (λσ H2=>?_)
   ·rintro⟨v3,rfl,k3,hf2,hno2⟩;obtain⟨ns,ek,nd⟩:=hP.k;have hval:=vd (ns:=ns) ek nd (fB hj);have hkk:k'∈l.kv.map (·.1):=xA.mpr ⟨_,fB hj,rfl⟩;rw[ek] at hkk;obtain⟨p,_,rfl⟩:=xA.mp hkk;obtain⟨u,g,u1,u2,u3⟩|⟨u1,_⟩:=hP.v p;rotate_left
    ·rw[hval] at u1;cases u1
    rw[hval] at u1;cases u1;have tp:Tp H H2:=λc xs h=>k3 _ _ (k1 _ _ h (OE h hrd (λz=>nomatch z))) (OE h hd (λz=>nomatch z));obtain⟨pa,tv,rfl,hpa,htv⟩:=u3.tp tp;have go:¬(∃j',g.2=some (b,j'))->∀m,m < j+1->∀p v',l.kv[m]?=some (Sum.inl p,v')->∀r j',l.F p≠some (r,some (b,j')):=λhg m hm p' v' h r j' hF=>by
     by_cases c:m < j
     ·exact hno2 m c p' v' h r j' hF
     ·obtain rfl:m=j:=⋯;rw[hj] at h;cases h;rw[u2] at hF;cases hF;exact hg ⟨j',rfl⟩
    rfl';refine⟨_,OC.of hpa,tv,JD (j:=1) rfl,?_⟩;rcases hg:g.2 with _|⟨b',j'⟩
    ·rw[hg] at htv;obtain rfl:tv=.non:=htv;refine VG (by rw[kA rfl];rfl) ?_;have fin9:=go (λ⟨_,z⟩=>by rw[hg] at z;cases z)
     first|exact CC ⟨k3,hf2,fin9⟩|exact⟨k3,hf2,fin9⟩|exact CC ⟨_,rfl,k3,hf2,fin9⟩|exact⟨_,rfl,k3,hf2,fin9⟩
    ·rw[hg] at htv;obtain⟨ta,rfl,hta⟩:=htv;refine fN (by rw[yA (λz=>nomatch z)];rfl) ⟨_,OC.of hpa,.ref ta,JD (j:=1) rfl,ta,rfl,_,OC.of hta,.int b',JD (j:=0) rfl,rfl,?_⟩;by_cases c:b'=b
     ·rw[bA (by rw[c])];show Q (.bl true) (gE rd (gE l.d H2));have s2:=thd k3 hf2;have eB:B=true:=hB.mpr ⟨l,fB hl,p,g.1,j',by rw[u2,<-c,<-hg]⟩;rw[eB] at q;exact q _ (thr (λc u h hc=>s2 _ _ (k1 c u h hc)) (s2 _ _ hf))
     ·rw[aA (λz=>c (V.int.inj z))];have fin9:=go (λ⟨_,z⟩=>by rw[hg] at z;cases z;exact c rfl)
      first|exact⟨k3,hf2,fin9⟩|exact⟨_,rfl,k3,hf2,fin9⟩
   ·rintro⟨v3,rfl,k3,hf2,hno2⟩;have s2:=thd k3 hf2;refine⟨_,_,rfl,λc u h hc=>s2 _ _ (k1 c u h hc),s2 _ _ hf,λj hj l2 e1=>?_⟩;by_cases c:j < i
    ·exact hno j c l2 e1
    ·obtain rfl:j=i:=⋯;rw[hl] at e1;cases e1;rintro⟨p,r,j',hF⟩;obtain⟨u,g,u1,u2,u3⟩|⟨_,u2⟩:=hP.v p
     ·obtain⟨m,hm1,hm2⟩:=List.getElem_of_mem (bN u1);exact hno2 m hm1 p u (by rw[zA hm1,hm2]) r j' hF
     ·rw[u2] at hF;cases hF
  ·rintro⟨v2,v3,rfl,k1,hf,hno⟩;have e:B=false:=by
    rw[JB];intro z;obtain⟨l,hl,ht⟩:=hB.mp z;obtain⟨j,hj1,hj2⟩:=List.getElem_of_mem hl;exact hno j (by rw[dA];exact hj1) l (by rw[zA hj1,hj2]) ht
   show Q (.bl false) (gE rd H');rw[e] at q;exact q _ (thr k1 hf)
structure MD (H:Hp) (N:Nat) (td bd:Addr) (ls:List Lt) (bk:Kvs):Prop where
 t:H td=some (.dK (ls.map ltK))
 b:H bd=some (.dK bk)
 m:∀l∈ls,GD H N l.d l.kv l.F
 nd:(td::bd::ls.map Lt.d).Nodup
 nn:(ls.map Lt.n).Nodup
 ib:eF (cD bk)
 vb:∀kv∈bk,∃i:Int,kv.2=.int i
 sl:ls.length<=N
 sb:bk.length<=N
 nb:∀l∈ls,0<=l.n/\l.n<=N
noncomputable def Kw (D:List Addr) (H H':Hp):Prop:=∀c o,H c=some o->c∉D->H' c=some o
theorem Kw.of {D:List Addr} {H H':Hp} (s:vC H H'):Kw D H H':=λc o h ο=>s c o h
theorem Kw.trans {D:List Addr} {H H1 H2:Hp} (a:Kw D H H1) (b:Kw D H1 H2):Kw D H H2:=λc o h n=>b c o (a c o h n) n
theorem uP {D:List Addr} {H:Hp} {d:Addr} {o:HO} (h:d∈D):Kw D H (yC H d o):=λc u hc n=>by rw[WC (λe=>n (by rw[e];exact h))];exact hc
theorem Kd.kw {D:List Addr} {H H':Hp} {d:Addr} (k:Kd d H H') (h:d∈D):Kw D H H':=λc u hc n=>k c u hc λe=>n (by rw[e];exact h)
section
variable {H H':Hp} {N N':Nat} {td bd:Addr} {ls:List Lt} {bk bk':Kvs} {n:Int}
theorem MD.ne (h:MD H N td bd ls bk):td≠bd/\∀l∈ls,l.d≠td/\l.d≠bd:=by
 have:=h.nd;rw[qB,qB] at this;exact⟨λe=>this.1 (by rw[e];exact cA),λl hl=>⟨λe=>this.1 (by rw[<-e];exact fA _ (xA.mpr ⟨l,hl,rfl⟩)),λe=>this.2.1 (by rw[<-e];exact xA.mpr ⟨l,hl,rfl⟩)⟩⟩
theorem MD.same (h:MD H N td bd ls bk) (s:vC H H'):MD H' N td bd ls bk:=⟨s _ _ h.t,s _ _ h.b,λl hl=>(h.m l hl).same s,h.nd,h.nn,h.ib,h.vb,h.sl,h.sb,h.nb⟩
theorem MD.le (h:MD H N td bd ls bk) (e:N<=N'):MD H N' td bd ls bk:=⟨h.t,h.b,λl hl=>(h.m l hl).le e,h.nd,h.nn,h.ib,h.vb,YA h.sl e,YA h.sb e,λl hl=>⟨(h.nb l hl).1,by have:=(h.nb l hl).2;omega⟩⟩
theorem XS {ls:List Lt}:cD (ls.map ltK)=ls.map λl=>(Sum.inl l.n:Key):=by
 unfold cD;rw[HB];rfl
theorem GW {ls:List Lt}:(ls.map ltK).map (·.1)=(ls.map Lt.n).map Sum.inl:=by rw[HB,HB];rfl
theorem iM {ls:List Lt}:IK (ls.map ltK):=⟨ls.map Lt.n,by rw[HB,HB];rfl⟩
theorem jM {ls:List Lt} {n:Int}:(Sum.inl n:Key)∈cD (ls.map ltK)↔∃l∈ls,l.n=n:=by
 rw[XS,xA];exact⟨λ⟨l,hl,e⟩=>⟨l,hl,UB e⟩,λ⟨l,hl,e⟩=>⟨l,hl,by rw[e]⟩⟩
theorem YS:∀{ls:List Lt} {l:Lt},(ls.map Lt.n).Nodup->l∈ls->JC (ls.map ltK) (Sum.inl l.n)=some (.ref l.d)
 |x::ls,l,nd,hl=>by
  rw[QA,qB] at nd;rcases wA.mp hl with rfl|h
  ·exact LG rfl
  ·have:x.n≠l.n:=λe=>nd.1 (by rw[e];exact xA.mpr ⟨l,h,rfl⟩);rw[QA,CG (show (ltK x).1≠Sum.inl l.n from λz=>this (UB z))];exact YS nd.2 h
theorem Td (nn:(ls.map Lt.n).Nodup) {l l':Lt} (h:l∈ls) (h':l'∈ls) (e:l.n=l'.n):l=l':=EH nn h h' e
theorem ZS {d:Addr} {kvs:Kvs} {l:Lt} {o:HO} (h:GD H N l.d l.kv l.F) (hd:H d=some (.dK kvs)) (ne:l.d≠d):GD (yC H d o) N l.d l.kv l.F:=h.tp (Tp.kd hd (λο z=>nomatch z) cG) (by rw[WC ne];exact h.d)
theorem MD.bank (h:MD H N td bd ls bk) (ib:eF (cD bk')) (vb:∀kv∈bk',∃i:Int,kv.2=.int i) (sb:bk'.length<=N):MD (yC H bd (.dK bk')) N td bd ls bk':=by
 obtain⟨n1,n2⟩:=h.ne;exact⟨by rw[WC n1];exact h.t,SC,λl hl=>ZS (h.m l hl) h.b (n2 l hl).2,h.nd,h.nn,ib,vb,h.sl,sb,h.nb⟩
theorem MD.more (h:MD H N td bd ls bk) {l:Lt} (hl:H l.d=none) (hP:GD H' N l.d l.kv l.F) (s:vC H H') (hn:Sum.inl l.n∉cD (ls.map ltK)) (hN:ls.length < N) (hb:0<=l.n/\l.n<=N):MD (yC H' td (.dK ((ls++[l]).map ltK))) N td bd (ls++[l]) bk:=by
 obtain⟨n1,n2⟩:=h.ne;have h1:=h.same s;have e1:l.d≠td:=(AE h.t hl).symm;have e2:l.d≠bd:=(AE h.b hl).symm;have e3:∀x∈ls,x.d≠l.d:=λx hx=>AE (h.m x hx).d hl;refine⟨SC,by rw[WC n1.symm];exact h1.b,λx hx=>?_,?_,?_,h.ib,h.vb,by rw[qA];exact hN,h.sb,λx hx=>?_⟩;rotate_right
 ·rcases rA.mp hx with hx|hx
  ·exact h.nb x hx
  ·rw[gA.mp hx];exact hb
 ·rcases rA.mp hx with hx|hx
  ·exact ZS (h1.m x hx) h1.t (n2 x hx).1
  ·rw[gA.mp hx];exact ZS hP h1.t e1
 ·rw[KA,<-List.cons_append,<-List.cons_append];refine LB.mpr ⟨h.nd,by simp,λx hx y hy e=>?_⟩;have hy:y=l.d:=gA.mp hy;rw[hy] at e;rcases wA.mp hx with hx|hx
  ·exact e1 (by rw[<-e,hx])
  ·rcases wA.mp hx with hx|hx
   ·exact e2 (by rw[<-e,hx])
   ·obtain⟨q,hq,eq⟩:=xA.mp hx;exact e3 q hq (by rw[eq,e])
 ·rw[KA];refine LB.mpr ⟨h.nn,by simp,λx hx y hy e=>?_⟩;have hy:y=l.n:=gA.mp hy;obtain⟨q,hq,eq⟩:=xA.mp hx;exact hn (jM.mpr ⟨q,hq,by rw[eq,e,hy]⟩)
theorem xm:nD (ls.map ltK) (Sum.inl n)=(ls.filter λl=>decide (l.n≠n)).map ltK:=by
 unfold nD;rw[List.filter_map];congr 1;refine List.filter_congr λl ο=>?_;show decide ((Sum.inl l.n:Key)≠Sum.inl n)=decide (l.n≠n);rw[yB];simp only[kB];exact⟨λz e=>z (by rw[e]),λz e=>z (UB e)⟩
theorem MD.less (h:MD H N td bd ls bk):MD (yC H td (.dK (nD (ls.map ltK) (Sum.inl n)))) N td bd (ls.filter λl=>decide (l.n≠n)) bk:=by
 obtain⟨n1,n2⟩:=h.ne;have sub:(ls.filter λl=>decide (l.n≠n)).Sublist ls:=List.filter_sublist;exact⟨by rw[xm];exact SC,by rw[WC n1.symm];exact h.b,λl hl=>ZS (h.m l (sub.subset hl)) h.t (n2 l (sub.subset hl)).1,h.nd.sublist (((sub.map Lt.d).cons_cons bd).cons_cons td),h.nn.sublist (sub.map Lt.n),h.ib,h.vb,YA sub.length_le h.sl,h.sb,λl hl=>h.nb l (sub.subset hl)⟩
noncomputable def UE (n:Int) (kv:Kvs) (F:Int->Option Og) (ls:List Lt):List Lt:=ls.map λl=>if l.n=n then {l with kv:=kv,F:=F} else l
theorem aT {α:Type} {g:Lt->α} {kv:Kvs} {F:Int->Option Og} (h:∀l:Lt,g {l with kv:=kv,F:=F}=g l):(UE n kv F ls).map g=ls.map g:=by
 unfold UE;rw[HB];refine List.map_congr_left λl ο=>?_;show g (if l.n=n then _ else l)=g l
 split
 ·exact h l
 ·rfl
theorem MD.set (h:MD H N td bd ls bk) {l:Lt} {kv:Kvs} {F:Int->Option Og} (hl:l∈ls) (hP:GD H' N' l.d kv F) (k:Kd l.d H H') (hN:N<=N'):MD H' N' td bd (UE l.n kv F ls) bk:=by
 obtain⟨n1,n2⟩:=h.ne;obtain⟨m1,m2⟩:=n2 l hl;have tp:Tp H H':=Tp.kd (h.m l hl).d (λο z=>nomatch z) k;refine⟨by rw[show (UE l.n kv F ls).map ltK=ls.map ltK from aT λο=>rfl];exact k _ _ h.t m1.symm,k _ _ h.b m2.symm,λx hx=>?_,by rw[show (UE l.n kv F ls).map Lt.d=ls.map Lt.d from aT λο=>rfl];exact h.nd,by rw[show (UE l.n kv F ls).map Lt.n=ls.map Lt.n from aT λο=>rfl];exact h.nn,h.ib,h.vb,by unfold UE;rw[dA];exact YA h.sl hN,YA h.sb hN,λx hx=>?_⟩;rotate_left
 ·obtain⟨q,hq,rfl⟩:=xA.mp hx;have:=h.nb q hq
  split
  ·exact⟨this.1,by have:=this.2;show q.n<=(N':Int);omega⟩
  ·exact⟨this.1,by have:=this.2;omega⟩
 obtain⟨q,hq,rfl⟩:=xA.mp hx;by_cases c:q.n=l.n
 ·obtain rfl:=Td h.nn hq hl c;rw[bA rfl];exact hP
 ·rw[aA c];have nd:q.d≠l.d:=λe=>by
   have:=h.nd;rw[qB,qB] at this;exact c (by rw[EH this.2.2 hq hl e])
  exact ((h.m q hq).tp tp (k _ _ (h.m q hq).d nd)).le hN
end
theorem Ud {ls:List Lt} {k N:Nat} (h:DH (cD (ls.map ltK)) k) (hl:ls.length<=N):0<=(k:Int)/\(k:Int)<=((N+128:Nat):Int):=by
 have:=tW k _ h.2;rw[XS,dA] at this;omega
noncomputable def Dd.wd:Dd->Str
 |.new=>"new"
 |.bank _=>"bank"
 |.drop _=>"drop"
 |.fork _=>"fork"
 |.fin _=>"end"
 |.lift .. =>"lift"
 |.guard .. =>"guard"
 |.lay .. =>"lay"
noncomputable def Dd.num:Dd->Int
 |.new=>0
 |.bank n=>n
 |.drop n=>n
 |.fork n=>n
 |.fin n=>n
 |.lift n .. =>n
 |.guard n .. =>n
 |.lay n .. =>n
theorem Dd.vs0 (d:Dd):d.vs[0]?=some (.str d.wd):=by cases d<;>rfl
theorem Dd.vs1 {d:Dd} (h:d≠.new):d.vs[1]?=some (.int d.num):=by
 cases d with
 |new=>exact absurd rfl h
 |_=>rfl
noncomputable def zG (pg:Int) (ls:List Lt) (bk:Kvs) (dd:Dd) (an:An) (ls':List Lt) (bk':Kvs):Prop:=match dd with
 |.new=>bk'=bk/\∃(k:Nat) (e:Addr),DH (cD (ls.map ltK)) k/\an=.ok (.int (k:Int))/\ls'=ls++[⟨(k:Int),e,[],λο=>none⟩]
 |.bank n=>ls'=ls/\((¬(1<=n/\n<=64)/\an=.no "OutOfBank"/\bk'=bk)\/((1<=n/\n<=64)/\∃k:Nat,DH (cD bk) k/\an=.ok (.int (k:Int))/\bk'=bk++[(Sum.inl (k:Int),.int n)]))
 |.drop n=>ls'=ls/\((Sum.inl n∉cD bk/\an=.no "NoBank"/\bk'=bk)\/(Sum.inl n∈cD bk/\(∃l∈ls,gM l.F n)/\an=.no "Busy"/\bk'=bk)\/(Sum.inl n∈cD bk/\(¬∃l∈ls,gM l.F n)/\an=.ok .non/\bk'=nD bk (Sum.inl n)))
 |.fork n=>bk'=bk/\((Sum.inl n∉cD (ls.map ltK)/\an=.no "NoTask"/\ls'=ls)\/∃l∈ls,l.n=n/\∃(k:Nat) (e:Addr),DH (cD (ls.map ltK)) k/\an=.ok (.int (k:Int))/\ls'=ls++[⟨(k:Int),e,l.kv,l.F⟩])
 |.fin n=>bk'=bk/\((Sum.inl n∉cD (ls.map ltK)/\an=.no "NoTask"/\ls'=ls)\/∃l∈ls,l.n=n/\an=.ok .non/\ls'=ls.filter λl=>decide (l.n≠n))
 |dd=>bk'=bk/\((Sum.inl dd.num∉cD (ls.map ltK)/\an=.no "NoTask"/\ls'=ls)\/∃l∈ls,l.n=dd.num/\an=(NE pg l.F bk dd).1/\∃kv',ls'=UE dd.num kv' (NE pg l.F bk dd).2 ls)
noncomputable def vP (H:Hp) (ls ls':List Lt):Prop:=∀l∈ls',l.d∈ls.map Lt.d\/H l.d=none
inductive Vd (vs:List V) (H:Hp) (Q:VK) (E:XK):Prop where
 |mk (td bd a:Addr) (N:Nat) (ls:List Lt) (bk:Kvs) (pg:Int) (dd:Dd) (_:vs=[.ref td,.ref bd,.int pg,.ref a]) (_:MD H N td bd ls bk) (_:N < 7900) (_:vH H a dd) (_:∀an ls' bk' H' b,zG pg ls bk dd an ls' bk'->MD H' (N+128) td bd ls' bk'->Kw (td::bd::ls.map Lt.d) H H'->vP H ls ls'->wH H' b an->Q (.ref b) H'):Vd vs H Q E
noncomputable def sp_due:Sp:=Vd
theorem wP (T:AD K mg A):KD P w K mg base "_law_due" 2 ["_law_tasks","_law_banks","_law_pages","_law_deed_here"] [] sp_due:=by
 have Bm:=@CW P w K mg base A T;have Qx:=@wm P w K mg base A T;have Ld:=@fM P w K mg base A T;refine T.Q5.have wS (λvs H Q E z=>?_) ?_
 ·obtain⟨td,bd,a,N,ls,bk,pg,dd,rfl,_⟩:=z;rfl
 ·intro f cdv A' outer s H vs Q E hr z;obtain⟨td,bd,a,N,ls,bk,pg,dd,rfl,hW,hN,ha,q⟩:=z;have hsz:=PySem.sizeLine_eq;have hsl:=hW.sl;have hsb:=hW.sb;obtain⟨n1,n2⟩:=hW.ne;have VD:vP H ls ls:=λl hl=>.inl (xA.mpr ⟨l,hl,rfl⟩);have qok:∀v ls' bk' {H':Hp},zG pg ls bk dd (.ok v) ls' bk'->MD H' (N+128) td bd ls' bk'->Kw (td::bd::ls.map Lt.d) H H'->vP H ls ls'->∀p,H' p=none->Q (.ref p) (yC H' p (.tup [V.str "ok",v])):=λv ls' bk' H' d9 w9 k9 f9 p hp=>q (.ok v) ls' bk' _ p d9 (w9.same (dD LC hp)) (k9.trans (Kw.of (dD LC hp))) f9 SC;have qno:∀w9 {H':Hp},vC H H'->zG pg ls bk dd (.no w9) ls bk->∀p,H' p=none->Q (.ref p) (yC H' p (.tup [V.str "no",V.str w9])):=λw9 H' s9 d9 p hp=>q (.no w9) ls bk _ p d9 (((hW.le ⋯).same s9).same (dD LC hp)) (Kw.of (s9.trans (dD LC hp))) VD SC;have vb':∀k v,JC bk k=some v->∃i:Int,v=.int i:=λk v hv=>hW.vb (k,v) (bN hv);refine⟨_,(OD (eD (tD pE (MC UC (nC 3) sC (λο ο=>rfl)) wD (rC _)) (NC (sD (i:=4) wS.nd rfl (Or.inl rfl) (lD Bm (hr.mono (by decide)) KC (pC (nC 0) uC)))
   (NC (QI (vE hr) (nC 0) (nC 4) KM rfl)
   (EC (YC (YD (pC wD (pC (nC 4) uC))))))) fD)
   (OD (eD (tD pE (MC UC (nC 3) sC (λο ο=>rfl)) wD (rC _)) (NC (eD (PW.pt (HH (tD UF (MC UC (nC 3) sC (λο ο=>rfl)) sC (rC _)) (HI (tD fH (MC UC (nC 3) sC (λο ο=>rfl)) sC (rC _))))) (EC (YC (YD (pC wD (pC wD uC))))) fD)
   (NC (sD (i:=5) wS.nd rfl (Or.inl rfl) (lD Bm (hr.mono (by decide)) KC (pC (nC 1) uC)))
   (NC (QI (vE hr) (nC 1) (nC 5) (MC UC (nC 3) sC (λο ο=>rfl)) rfl)
   (EC (YC (YD (pC wD (pC (nC 5) uC)))))))) fD)
   (OD (eD (tD pE (MC UC (nC 3) sC (λο ο=>rfl)) wD (rC _)) (NC (eD (nI (WN (vE hr) (MC UC (nC 3) sC (λο ο=>rfl)) (nC 1))) (EC (YC (YD (pC wD (pC wD uC))))) fD)
   (NC (eD (xE (lD Qx (hr.mono (by decide)) KC (pC (nC 0) (pC (MC UC (nC 3) sC (λο ο=>rfl)) uC)))) (EC (YC (YD (pC wD (pC wD uC))))) fD)
   (NC (uE (XN (nC 1) (MC UC (nC 3) sC (λο ο=>rfl)) ⟨rfl,rfl,rfl,rfl⟩))
   (EC (YC (YD (pC wD (pC XE uC)))))))) fD)
   (OD (eD (nI (WN (vE hr) (MC UC (nC 3) sC (λο ο=>rfl)) (nC 0))) (EC (YC (YD (pC wD (pC wD uC))))) fD)
   (OD (eD (tD pE (MC UC (nC 3) sC (λο ο=>rfl)) wD (rC _)) (NC (sD (i:=4) wS.nd rfl (Or.inl rfl) (lD Bm (hr.mono (by decide)) KC (pC (nC 0) uC)))
   (NC (QI (vE hr) (nC 0) (nC 4) (MT vi rfl T.Rv PyProof.Rows.boot_dict (pC (hG (vE hr) (nC 0) (MC UC (nC 3) sC (λο ο=>rfl)) (λο ο=>rfl)) uC)) rfl)
   (EC (YC (YD (pC wD (pC (nC 4) uC))))))) fD)
   (OD (eD (tD pE (MC UC (nC 3) sC (λο ο=>rfl)) wD (rC _)) (NC (uE (XN (nC 0) (MC UC (nC 3) sC (λο ο=>rfl)) ⟨rfl,rfl,rfl,rfl⟩))
   (EC (YC (YD (pC wD (pC XE uC)))))) fD)
   (EC (YC (lD Ld (hr.mono (by decide)) KC (pC (hG (vE hr) (nC 0) (MC UC (nC 3) sC (λο ο=>rfl)) (λο ο=>rfl)) (pC (nC 1) (pC (nC 2) (pC (nC 3) uC))))))))))))),?_⟩
  rfl';refine RC (λσ G=>σ=[some (.ref td),some (.ref bd),some (.int pg),some (.ref a),none,none]/\G=H/\dd≠.new) ?_ λU9 D9 hU9 hD9 σ1 H1=>?_
  ·unfold aF;rfl';refine⟨_,OC.of ha,.str dd.wd,JD (j:=0) dd.vs0,rfl,?_⟩;refine VC (λhc=>?_) (λhc=>λe=>hc (by rw[e];rfl));cases dd with
   |new=>
    refine⟨td,ls.map ltK,rfl,hW.t,λk hk e he=>?_⟩;have sm:=dD (o:=.dK []) (LC (H:=H)) he;refine⟨_,.inl ⟨ls.map ltK,Sum.inl (k:Int),sm _ _ hW.t,rfl,by rw[dA];omega,rfl⟩,?_⟩;have hk':ED (ls.map ltK) (Sum.inl (k:Int)) (.ref e)=(ls++[(⟨(k:Int),e,[],λο=>none⟩:Lt)]).map ltK:=by rw[cN hk.1,KA];rfl
    rw[hk'];refine qok (.int (k:Int)) _ bk ⟨rfl,k,e,hk,rfl,rfl⟩ ((hW.le ⋯).more (l:=⟨(k:Int),e,[],λο=>none⟩) he ⟨SC,λp=>.inr ⟨rfl,rfl⟩,⟨[],rfl,List.nodup_nil⟩,bC _⟩ sm hk.1 ⋯ (Ud hk hsl)) ((Kw.of sm).trans (uP cA)) λl hl=>?_;rcases rA.mp hl with hl|hl
    ·exact VD l hl
    ·rw[gA.mp hl];exact .inr he
   |_=>exact absurd (V.str.inj hc) (by simp only[Dd.wd];decide+kernel)
  rintro⟨rfl,rfl,d0⟩;subst hU9 hD9;refine RC (λσ G=>σ=[some (.ref td),some (.ref bd),some (.int pg),some (.ref a),none,none]/\G=H1/\∀n,dd≠.bank n) ?_ λU9 D9 hU9 hD9 σ2 H2=>?_
  ·unfold aF;rfl';refine⟨_,OC.of ha,.str dd.wd,JD (j:=0) dd.vs0,rfl,?_⟩;refine VC (λhc=>?_) (λhc=>λn e=>hc (by rw[e];rfl));cases dd with
   |bank n=>
    refine⟨_,OC.of ha,.int n,JD (j:=1) rfl,n,rfl,VC (λc=>qno _ LC ⟨rfl,.inl ⟨⋯,rfl,rfl⟩⟩) (λc1=>⟨_,OC.of ha,.int n,JD (j:=1) rfl,n,rfl,VC (λc=>qno _ LC ⟨rfl,.inl ⟨⋯,rfl,rfl⟩⟩) (λc2=>⟨bd,bk,rfl,hW.b,λk hk=>⟨_,OC.of ha,.int n,JD (j:=1) rfl,_,.inl ⟨bk,Sum.inl (k:Int),hW.b,rfl,⋯,rfl⟩,?_⟩⟩)⟩)⟩;rw[cN hk.1];refine qok (.int (k:Int)) ls _ ⟨rfl,.inr ⟨⟨⋯,⋯⟩,k,hk,rfl,rfl⟩⟩ ((hW.le ⋯).bank ?_ ?_ ?_) (uP (fA _ cA)) VD
    ·unfold cD;rw[KA];exact hW.ib.app
    ·intro kv hkv;rcases rA.mp hkv with h|h
     ·exact hW.vb kv h
     ·rw[gA.mp h];exact⟨n,rfl⟩
    ·rw[qA];show bk.length+1<=N+128;omega
   |_=>exact absurd (V.str.inj hc) (by simp only[Dd.wd];decide+kernel)
  rintro⟨rfl,rfl,d1⟩;subst hU9 hD9;refine RC (λσ G=>σ=[some (.ref td),some (.ref bd),some (.int pg),some (.ref a),none,none]/\G=H2/\∀n,dd≠.drop n) ?_ λU9 D9 hU9 hD9 σ3 H3=>?_
  ·unfold FE jF;rfl';refine⟨_,OC.of ha,.str dd.wd,JD (j:=0) dd.vs0,rfl,?_⟩;refine VC (λhc=>?_) (λhc=>λn e=>hc (by rw[e];rfl));cases dd with
   |drop n=>
    refine⟨_,OC.of ha,.int n,JD (j:=1) rfl,JC bk (Sum.inl n),.inl ⟨bk,Sum.inl n,.inl hW.b,rfl,rfl⟩,?_⟩;cases hv:JC bk (Sum.inl n) with
    |none=>exact fN rfl (qno _ LC ⟨rfl,.inl ⟨LM hv,rfl,rfl⟩⟩)
    |some v=>
     have hin:(Sum.inl n:Key)∈cD bk:=uJ hv;obtain⟨B,hB⟩:∃B:Bool,(B=true↔∃l∈ls,gM l.F n):=by
      by_cases h9:∃l∈ls,gM l.F n
      ·exact⟨true,λο=>h9,λο=>rfl⟩
      ·exact⟨false,λz=>(nA z).elim,λz=>absurd z h9⟩
     refine VG (by simp) ⟨_,OC.of ha,.int n,JD (j:=1) rfl,td,ls,N,n,B,rfl,hW.t,λl hl=>⟨hW.m l hl,(n2 l hl).1⟩,hB,λH' s'=>⟨B,rfl,?_⟩⟩;cases B with
     |true=>exact qD (qno _ s' ⟨rfl,.inr (.inl ⟨hin,hB.mp rfl,rfl,rfl⟩)⟩)
     |false=>
      refine CC ⟨.inl ⟨bk,.inl (s' _ _ hW.b)⟩,_,OC.of (s' _ _ ha),.int n,JD (j:=1) rfl,bk,s' _ _ hW.b,Sum.inl n,rfl,v,hv,?_⟩;refine qok .non ls _ ⟨rfl,.inr (.inr ⟨hin,λz=>(nA (hB.mpr z)).elim,rfl,rfl⟩)⟩ (((hW.same s').le ⋯).bank ?_ ?_ ?_) ((Kw.of s').trans (uP (fA _ cA))) VD
      ·rw[dm];exact hW.ib.drop
      ·exact λkv hkv=>hW.vb kv (by unfold nD at hkv;exact (zB.mp hkv).1)
      ·have:=HR bk (Sum.inl n:Key);omega
   |_=>exact absurd (V.str.inj hc) (by simp only[Dd.wd];decide+kernel)
  rintro⟨rfl,rfl,d2⟩;subst hU9 hD9;refine RC (λσ G=>σ=[some (.ref td),some (.ref bd),some (.int pg),some (.ref a),none,none]/\G=H3/\Sum.inl dd.num∈cD (ls.map ltK)) ?_ λU9 D9 hU9 hD9 σ4 H4=>?_
  ·unfold FE;rfl';refine⟨_,OC.of ha,.int dd.num,JD (j:=1) (Dd.vs1 d0),JC (ls.map ltK) (Sum.inl dd.num),.inl ⟨_,Sum.inl dd.num,.inl hW.t,rfl,rfl⟩,?_⟩;cases hv:JC (ls.map ltK) (Sum.inl dd.num) with
   |none=>
    refine fN rfl (qno _ LC ?_);have hv:=LM hv;cases dd with
    |new=>exact absurd rfl d0
    |bank n=>exact absurd rfl (d1 n)
    |drop n=>exact absurd rfl (d2 n)
    |_=>exact⟨rfl,.inl ⟨hv,rfl,rfl⟩⟩
   |some v=>exact VG (by simp) (uJ hv)
  rintro⟨rfl,rfl,hin⟩;subst hU9 hD9;obtain⟨l,hl,eln⟩:=jM.mp hin;have hval:=YS hW.nn hl;rw[eln] at hval;refine RC (λσ G=>σ=[some (.ref td),some (.ref bd),some (.int pg),some (.ref a),none,none]/\G=H4/\∀n,dd≠.fork n) ?_ λU9 D9 hU9 hD9 σ5 H5=>?_
  ·unfold ND aF;rfl';refine⟨_,OC.of ha,.str dd.wd,JD (j:=0) dd.vs0,rfl,?_⟩;refine VC (λhc=>?_) (λhc=>λn e=>hc (by rw[e];rfl));cases dd with
   |fork n=>
    refine⟨td,_,rfl,hW.t,λk hk=>⟨_,OC.of ha,.int n,JD (j:=1) rfl,_,.inl ⟨_,Sum.inl n,.inl hW.t,rfl,hval.symm⟩,l.d,rfl,l.kv,.inl (hW.m l hl).d,λe he=>?_⟩⟩;have sm:=dD (o:=.dK l.kv) (LC (H:=H4)) he;refine⟨_,.inl ⟨ls.map ltK,Sum.inl (k:Int),sm _ _ hW.t,rfl,by rw[dA];omega,rfl⟩,?_⟩;have hk':ED (ls.map ltK) (Sum.inl (k:Int)) (.ref e)=(ls++[(⟨(k:Int),e,l.kv,l.F⟩:Lt)]).map ltK:=by rw[cN hk.1,KA];rfl
    rw[hk'];have hPl:=((hW.m l hl).same sm).le (show N<=N+128 by omega);refine qok (.int (k:Int)) _ bk ⟨rfl,.inr ⟨l,hl,eln,k,e,hk,rfl,rfl⟩⟩ ((hW.le ⋯).more (l:=⟨(k:Int),e,l.kv,l.F⟩) he ⟨SC,hPl.v,hPl.k,hPl.n⟩ sm hk.1 ⋯ (Ud hk hsl)) ((Kw.of sm).trans (uP cA)) λx hx=>?_;rcases rA.mp hx with hx|hx
    ·exact VD x hx
    ·rw[gA.mp hx];exact .inr he
   |_=>exact absurd (V.str.inj hc) (by simp only[Dd.wd];decide+kernel)
  rintro⟨rfl,rfl,d3⟩;subst hU9 hD9;refine RC (λσ G=>σ=[some (.ref td),some (.ref bd),some (.int pg),some (.ref a),none,none]/\G=H5/\∀n,dd≠.fin n) ?_ λU9 D9 hU9 hD9 σ6 H6=>?_
  ·unfold jF;rfl';refine⟨_,OC.of ha,.str dd.wd,JD (j:=0) dd.vs0,rfl,?_⟩;refine VC (λhc=>?_) (λhc=>λn e=>hc (by rw[e];rfl));cases dd with
   |fin n=>
    refine⟨.inl ⟨_,.inl hW.t⟩,_,OC.of ha,.int n,JD (j:=1) rfl,ls.map ltK,hW.t,Sum.inl n,rfl,.ref l.d,hval,?_⟩;exact qok .non _ bk ⟨rfl,.inr ⟨l,hl,eln,rfl,rfl⟩⟩ (hW.le ⋯).less (uP cA) λx hx=>VD x (List.filter_sublist.subset hx)
   |_=>exact absurd (V.str.inj hc) (by simp only[Dd.wd];decide+kernel)
  rintro⟨rfl,rfl,d4⟩;subst hU9 hD9;unfold ND;rfl';have hpag:dd.pag:=by
   cases dd with
   |new=>exact absurd rfl d0
   |bank n=>exact absurd rfl (d1 n)
   |drop n=>exact absurd rfl (d2 n)
   |fork n=>exact absurd rfl (d3 n)
   |fin n=>exact absurd rfl (d4 n)
   |_=>trivial
  refine⟨_,OC.of ha,.int dd.num,JD (j:=1) (Dd.vs1 d0),.ref l.d,.inl ⟨_,Sum.inl dd.num,.inl hW.t,rfl,hval.symm⟩,l.d,bd,a,N,l.kv,bk,l.F,pg,dd,rfl,hW.m l hl,⋯,hW.b,vb',(n2 l hl).2,ha,hpag,λkv' H' b p1 p2 p3=>?_⟩;have w9:=hW.set hl p1 p2 ⋯;rw[eln] at w9;refine q _ _ bk H' b ?_ w9 (p2.kw (fA _ (fA _ (xA.mpr ⟨l,hl,rfl⟩)))) (λx hx=>?_) p3
  ·cases dd with
   |new=>exact absurd rfl d0
   |bank n=>exact absurd rfl (d1 n)
   |drop n=>exact absurd rfl (d2 n)
   |fork n=>exact absurd rfl (d3 n)
   |fin n=>exact absurd rfl (d4 n)
   |_=>exact⟨rfl,.inr ⟨l,hl,eln,rfl,kv',rfl⟩⟩
  ·have h9:(UE dd.num kv' (NE pg l.F bk dd).2 ls).map Lt.d=ls.map Lt.d:=aT λο=>rfl;exact .inl (by rw[<-h9];exact xA.mpr ⟨x,hx,rfl⟩)
noncomputable def nK (t:Tk) (l:Lt):Prop:=t.n=l.n/\(∀p,pm t.rs p=l.F p)/\DD t.rs
noncomputable def Sy (tks:List Tk) (ls:List Lt):Prop:=Paired nK tks ls
section
variable {tks:List Tk} {ls:List Lt} {n:Int}
theorem Sy.keys (h:Sy tks ls):cD (yD tks)=cD (ls.map ltK):=by
 unfold Sy at h
 induction h with
 |nil=>rfl
 |cons r _ ih=>
  show Sum.inl _::_=Sum.inl _::_;rw[r.1];exact congrArg _ ih
theorem Sy.at (h:Sy tks ls) {t:Tk} (ht:t∈tks):∃l∈ls,nK t l:=by
 obtain⟨i,h1,h2⟩:=List.getElem_of_mem ht;obtain⟨l,h3,h4⟩:=AI h (show tks[i]?=some t by rw[zA h1,h2]);exact⟨l,fB h3,h4⟩
theorem Sy.at2 (h:Sy tks ls) {l:Lt} (hl:l∈ls):∃t∈tks,nK t l:=by
 unfold Sy at h
 induction h with
 |nil=>exact (AB hl).elim
 |cons r _ ih=>
  rcases wA.mp hl with rfl|hl
  ·exact⟨_,cA,r⟩
  ·obtain⟨t,h1,h2⟩:=ih hl;exact⟨t,fA _ h1,h2⟩
theorem nK.set {t:Tk} {l:Lt} {rs:List Rn} {kv:Kvs} {F:Int->Option Og} (r:nK t l) (hp:∀p,pm rs p=F p) (hl:DD rs):nK (if t.n=n then {t with rs:=rs} else t) (if l.n=n then {l with kv:=kv,F:=F} else l):=by
 by_cases e:t.n=n
 ·rw[bA e,bA (by rw[<-r.1];exact e)];exact⟨r.1,hp,hl⟩
 ·rw[aA e,aA (by rw[<-r.1];exact e)];exact r
theorem Sy.set (h:Sy tks ls) {rs:List Rn} {kv:Kvs} {F:Int->Option Og} (hp:∀p,pm rs p=F p) (hl:DD rs):Sy (mF n rs tks) (UE n kv F ls):=by
 unfold Sy at *
 induction h with
 |nil=>exact .nil
 |cons r _ ih=>exact .cons (nK.set r hp hl) ih
set_option tactic.hygienic true in
theorem Sy.out (h:Sy tks ls):Sy (yG n tks) (ls.filter λl=>decide (l.n≠n)):=by
 unfold Sy yG at *
 induction h with
 |nil=>exact .nil
 |cons r _ ih=>
  rename_i t l _ _ _;rw[dB,dB];by_cases e:t.n=n
  ·rw[aA (by simp[e]),aA (by rw[<-r.1];simp[e])];exact ih
  ·rw[bA (by simp[e]),bA (by rw[<-r.1];simp[e])];exact .cons r ih
end
theorem ym {rs:List Rn} {x m:Int} (o:HC rs) (l:DD rs) (hm:0 < m):HC (ZD rs x m [])/\DD (ZD rs x m [])/\∀p,pm (ZD rs x m []) p=BD (pm rs) (λο=>none) x m.toNat p:=by
 obtain⟨h1,h2,h3⟩:=jW (parts:=[]) (a:=x) (n:=m) o l hm ⟨.nil,λr hr=>by simp at hr⟩ (λy hy=>by simp at hy);refine⟨h1,h2,λp=>?_⟩;rw[h3];unfold BD;rw[show ((m.toNat:Nat):Int)=m by omega]
 rfl
theorem zm {rs:List Rn} {x m r:Int} (o:HC rs) (l:DD rs) (hm:0 < m):HC (ZD rs x m ((aE rs x m).map (BI r)))/\DD (ZD rs x m ((aE rs x m).map (BI r)))/\∀p,pm (ZD rs x m ((aE rs x m).map (BI r))) p=BD (pm rs) (gG (pm rs) r) x m.toNat p:=by
 obtain⟨q1,q2,q3⟩:=DS (a:=x) (n:=m) o hm;obtain⟨h1,h2,h3⟩:=jW (parts:=(aE rs x m).map (BI r)) (a:=x) (n:=m) o l hm (xl q1) (λy hy=>by obtain⟨v,hv,rfl⟩:=xA.mp hy;exact q2 v hv);refine⟨h1,h2,λp=>?_⟩;rw[h3];unfold BD;rw[show ((m.toNat:Nat):Int)=m by omega];by_cases c:x<=p/\p < x+m
 ·rw[bA c,bA c];have e:=wa (q:=r) (L:=aE rs x m) (p:=p);rw[q3,bA c] at e;exact e
 ·rw[aA c,aA c]
theorem Sm {rs:List Rn} {x m r st:Int} {b:Option Int} (o:HC rs) (l:DD rs) (hm:0 < m):HC (CI rs x m r (tE b st))/\DD (CI rs x m r (tE b st))/\∀p,pm (CI rs x m r (tE b st)) p=BD (pm rs) (gL x r b st) x m.toNat p:=by
 obtain⟨h1,h2,h3⟩:=jW (parts:=[⟨x,m,r,tE b st⟩]) (a:=x) (n:=m) o l hm (CS hm) (λy hy=>by rw[gA.mp hy];exact⟨aB _,aB _⟩);refine⟨h1,h2,λp=>?_⟩;show pm (ZD rs x m [⟨x,m,r,tE b st⟩]) p=_;rw[h3];unfold BD;rw[show ((m.toNat:Nat):Int)=m by omega];by_cases c:x<=p/\p < x+m
 ·rw[bA c,bA c];show (if x<=p/\p < IC ⟨x,m,r,tE b st⟩ then some (r,tf ⟨x,m,r,tE b st⟩ p) else none)=_;rw[bA (show x<=p/\p < IC ⟨x,m,r,tE b st⟩ from c)];cases b<;>rfl
 ·rw[aA c,aA c]
theorem oK:∀{xs ns:List Int},xs.Nodup->(∀x∈xs,x∈ns)->xs.length<=ns.length
 |[],_,_,_=>bC _
 |x::xs,ns,nd,h=>by
  rw[qB] at nd;have hx:=h x cA;have:=oK (xs:=xs) (ns:=ns.erase x) nd.2 λy hy=>(List.mem_erase_of_ne (λe=>nd.1 (by rw[<-e];exact hy))).mpr (h y (fA _ hy));rw[List.length_erase_of_mem hx] at this;have h0:0 < ns.length:=List.length_pos_of_mem hx;rw[jB];omega
theorem Um {rs:List Rn} {ns:List Int} (o:HC rs) (h:∀p,pm rs p≠none->p∈ns):rs.length<=ns.length:=by
 have h1:(rs.map Rn.f).Nodup:=by
  unfold List.Nodup;rw[List.pairwise_map];refine List.Pairwise.imp_of_mem (λ{a b} ha hb hab=>?_) o.1;have h2:=o.2 a ha;have h3:a.f+a.m<=b.f:=hab;omega
 have:=oK h1 λx hx=>by
  obtain⟨r,hr,rfl⟩:=xA.mp hx;have h2:=o.2 r hr;exact h _ (by rw[gI o hr (aB _) (by show r.f < r.f+r.m;omega)];exact λz=>nomatch z)
 rw[dA] at this;exact this
theorem Xd {rs:List Rn} {b:Int} (o:HC rs):rs.any (jD b)=true↔gM (pm rs) b:=by
 rw[List.any_eq_true];constructor
 ·rintro⟨r,hr,ht⟩;have h2:=o.2 r hr;unfold jD at ht;cases e:r.t with
  |none=>rw[e] at ht;cases ht
  |some t=>
   rw[e] at ht;have ht:t.1=b:=by simpa using ht
   exact⟨r.f,r.r,t.2,by rw[gI o hr (aB _) (by show r.f < r.f+r.m;omega),EL,e,<-ht]⟩
 ·rintro⟨p,q,j,h⟩;obtain⟨r,hr,_,_,e⟩:=ZV h;refine⟨r,hr,?_⟩;have e2:some (b,j)=tf r p:=(Prod.mk.inj e).2;unfold tf at e2;cases e3:r.t with
  |none=>rw[e3] at e2;cases e2
  |some t=>
   rw[e3] at e2;unfold jD;rw[e3];have:b=t.1:=(Prod.mk.inj (FA e2)).1;simp[this]
noncomputable def Hf (z:Hz) (tks:List Tk) (H H':Hp):Prop:=∀c o,H c=some o->c≠z.td->c≠z.bd->(∀t∈tks,c≠t.p)->H' c=some o
noncomputable def Fw (ls:List Lt):Prop:=∀l∈ls,∃ns:List Int,ns.length<=10000/\∀p,l.F p≠none->p∈ns
section
variable {z:Hz} {l f g:Int} {tks:List Tk} {ls ls':List Lt} {bk bk':Kvs} {an:An} {n x m r st:Int} {b:Option Int} {H:Hp} {Q':VK} {E':XK}
theorem kM (hS:xD A H z l f g tks bk) (hy:Sy tks ls) (hl:tks.length < 1000) (hD:zG (pw (l * f)) ls bk .new an ls' bk')
  (q:∀v tks' H',an=.ok v->xD A H' z l f g tks' bk'->Sy tks' ls'->Hf z tks H H'->Q' v H'):ZJ A [.ref z.p] H Q' E':=by
 obtain⟨rfl,k,e,hk,rfl,rfl⟩:=hD;refine⟨z,l,f,g,tks,bk',rfl,hS,hl,λk' p H' hk' hS' hp kd=>?_⟩;rw[hy.keys] at hk';obtain rfl:=hk.one hk';exact q _ _ H' rfl hS' (EG hy (.cons ⟨rfl,λο=>rfl,trivial⟩ .nil)) λc o hc h1 ο ο=>kd c o hc h1
theorem Vm (hS:xD A H z l f g tks bk) (hy:Sy tks ls) (hl:bk.length < 1000) (hD:zG (pw (l * f)) ls bk (.bank n) an ls' bk')
  (q:∀v tks' H',an=.ok v->xD A H' z l f g tks' bk'->Sy tks' ls'->Hf z tks H H'->Q' v H') (e:∀w C H',an=.no w->Wd A w C->vC H H'->E' (.ref C) none H'):bK A [.ref z.p,.int n] H Q' E':=by
 obtain⟨rfl,⟨h1,rfl,rfl⟩|⟨h1,k,hk,rfl,rfl⟩⟩:=hD
 ·exact⟨z,l,f,g,tks,bk',n,rfl,hS,hl,.inr ⟨h1,e _ _ _ rfl .OutOfBank LC⟩⟩
 ·refine⟨z,l,f,g,tks,bk,n,rfl,hS,hl,.inl ⟨h1,λk' H' hk' hS' kd=>?_⟩⟩;obtain rfl:=hk.one hk';exact q _ _ H' rfl hS' hy λc o hc ο h2 ο=>kd c o hc h2
theorem Wm (hS:xD A H z l f g tks bk) (hy:Sy tks ls) (hl:tks.length < 1000) (hD:zG (pw (l * f)) ls bk (.drop n) an ls' bk')
  (q:∀v tks' H',an=.ok v->xD A H' z l f g tks' bk'->Sy tks' ls'->Hf z tks H H'->Q' v H') (e:∀w C H',an=.no w->Wd A w C->vC H H'->E' (.ref C) none H'):uc A [.ref z.p,.int n] H Q' E':=by
 have ho:∀t∈tks,HC t.rs:=λt ht=>(hS.st t ht).choose_spec.2.1;obtain⟨rfl,⟨h1,rfl,rfl⟩|⟨h1,⟨l2,hl2,ht⟩,rfl,rfl⟩|⟨h1,h2,rfl,rfl⟩⟩:=hD
 ·exact⟨z,l,f,g,tks,bk',n,rfl,hS,⋯,.inl ⟨h1,e _ _ _ rfl .NoBank LC⟩⟩
 ·obtain⟨t,htt,hs1,hs2,_⟩:=hy.at2 hl2;refine⟨z,l,f,g,tks,bk',n,rfl,hS,⋯,.inr (.inl ⟨h1,⟨t,htt,(Xd (ho t htt)).mpr ?_⟩,λH' s=>e _ _ _ rfl .Busy s⟩)⟩;obtain⟨p,r,j,hp⟩:=ht;exact⟨p,r,j,by rw[hs2];exact hp⟩
 ·refine⟨z,l,f,g,tks,bk,n,rfl,hS,⋯,.inr (.inr ⟨h1,λt ht=>?_,λH' hS' kd=>q _ _ H' rfl hS' hy λc o hc ο h2 ο=>kd c o hc h2⟩)⟩;rw[JB];intro z9;obtain⟨l2,hl2,hs1,hs2,_⟩:=hy.at ht;obtain⟨p,r,j,hp⟩:=(Xd (ho t ht)).mp z9;exact h2 ⟨l2,hl2,p,r,j,by rw[<-hs2];exact hp⟩
theorem Xm (hS:xD A H z l f g tks bk) (hy:Sy tks ls) (hl:tks.length < 1000) (hD:zG (pw (l * f)) ls bk (.fork n) an ls' bk')
  (q:∀v tks' H',an=.ok v->xD A H' z l f g tks' bk'->Sy tks' ls'->Hf z tks H H'->Q' v H') (e:∀w C H',an=.no w->Wd A w C->vC H H'->E' (.ref C) none H'):qc A [.ref z.p,.int n] H Q' E':=by
 obtain⟨rfl,⟨h1,rfl,rfl⟩|⟨l2,hl2,en,k,e2,hk,rfl,rfl⟩⟩:=hD
 ·exact⟨z,l,f,g,tks,bk',n,rfl,hS,hl,.inl ⟨by rw[hy.keys];exact h1,e _ _ _ rfl .NoTask LC⟩⟩
 ·obtain⟨t,ht,hs1,hs2,hs3⟩:=hy.at2 hl2;refine⟨z,l,f,g,tks,bk',n,rfl,hS,hl,.inr ⟨t,ht,hs1.trans en,λk' p H' hk' hS' hp kd=>?_⟩⟩;rw[hy.keys] at hk';obtain rfl:=hk.one hk';exact q _ _ H' rfl hS' (EG hy (.cons ⟨rfl,hs2,hs3⟩ .nil)) λc o hc h1 ο ο=>kd c o hc h1
theorem lM (hS:xD A H z l f g tks bk) (hy:Sy tks ls) (hD:zG (pw (l * f)) ls bk (.fin n) an ls' bk')
  (q:∀v tks' H',an=.ok v->xD A H' z l f g tks' bk'->Sy tks' ls'->Hf z tks H H'->Q' v H') (e:∀w C H',an=.no w->Wd A w C->vC H H'->E' (.ref C) none H'):lc A [.ref z.p,.int n] H Q' E':=by
 obtain⟨rfl,⟨h1,rfl,rfl⟩|⟨l2,hl2,en,rfl,rfl⟩⟩:=hD
 ·exact⟨z,l,f,g,tks,bk',n,rfl,hS,.inr ⟨by rw[hy.keys];exact h1,e _ _ _ rfl .NoTask LC⟩⟩
 ·exact⟨z,l,f,g,tks,bk',n,rfl,hS,.inl ⟨by rw[hy.keys];exact jM.mpr ⟨l2,hl2,en⟩,λH' hS' kd=>q _ _ H' rfl hS' hy.out λc o hc h1 ο ο=>kd c o hc h1⟩⟩
theorem bT {rs:List Rn} {F:Int->Option Og} (hF:∀p,pm rs p=F p) (hm:0 < m):(∀p,x<=p->p < x+m->pm rs p≠none)↔¬(gD F x m.toNat:Int) < m:=by
 have h1:=WS (F:=F) (x:=x) (k:=m.toNat);have h2:=dN (F:=F) (x:=x) (k:=m.toNat);rw[show ((m.toNat:Nat):Int)=m by omega] at h1;constructor
 ·intro h;have:=h1.mpr λp a b=>by rw[<-hF];exact h p a b
  omega
 ·intro h p a b;rw[hF];exact h1.mp ⋯ p a b
theorem Yd {rs:List Rn} {F:Int->Option Og} (hF:∀p,pm rs p=F p) (hm:0 < m):(∀p,x<=p->p < x+m->pm rs p=none)↔¬0 < gD F x m.toNat:=by
 have h1:=md (F:=F) (x:=x) (k:=m.toNat);rw[show ((m.toNat:Nat):Int)=m by omega] at h1;constructor
 ·intro h;have:=h1.mpr λp a b=>by rw[<-hF];exact h p a b
  omega
 ·intro h p a b;rw[hF];exact h1.mp ⋯ p a b
theorem HW {rs:List Rn} {F:Int->Option Og} {kv:Kvs} {l2:Lt} (hW:Fw (UE n kv F ls)) (hl:l2∈ls) (en:l2.n=n) (o:HC rs) (hp:∀p,pm rs p=F p):rs.length<=10000:=by
 obtain⟨ns,h1,h2⟩:=hW {l2 with kv:=kv,F:=F} (xA.mpr ⟨l2,hl,bA en⟩);exact YA (Um o λp h=>h2 p (show F p≠none by rw[<-hp];exact h)) h1
theorem Ym (hS:xD A H z l f g tks bk) (hy:Sy tks ls) (hW:Fw ls') (hD:zG (pw (l * f)) ls bk (.lift n x m) an ls' bk')
  (q:∀v tks' H',an=.ok v->xD A H' z l f g tks' bk'->Sy tks' ls'->Hf z tks H H'->Q' v H') (e:∀w C H',an=.no w->Wd A w C->vC H H'->E' (.ref C) none H'):cc A [.ref z.p,.int n,.int x,.int m] H Q' E':=by
 obtain⟨rfl,⟨h1,rfl,rfl⟩|⟨l2,hl2,en,rfl,kv',rfl⟩⟩:=hD
 ·exact⟨z,l,f,g,tks,bk',n,x,m,rfl,hS,.inl ⟨by rw[hy.keys];exact h1,e _ _ _ rfl .NoTask LC⟩⟩
 have hin:(Sum.inl n:Key)∈cD (yD tks):=by rw[hy.keys];exact jM.mpr ⟨l2,hl2,en⟩
 refine⟨z,l,f,g,tks,bk',n,x,m,rfl,hS,?_⟩;by_cases hb:LD (pw (l * f)) x m
 ·exact .inr (.inl ⟨hin,yA (by unfold LD at hb;omega),e _ _ _ (congrArg Prod.fst (bA hb)) .OutOfRoom LC⟩)
 have ep:NE (pw (l * f)) l2.F bk' (.lift n x m)=if (gD l2.F x m.toNat:Int) < m then (.no "NotMapped",l2.F) else (.ok .non,BD l2.F (λο=>none) x m.toNat):=aA hb
 have hm:0 < m:=by unfold LD at hb;omega
 obtain⟨t,ht,hs1,hs2,hs3⟩:=hy.at2 hl2;have ho:HC t.rs:=(hS.st t ht).choose_spec.2.1;refine .inr (.inr ⟨hin,kA (by unfold LD at hb;omega),t,ht,hs1.trans en,?_⟩);by_cases hc:(gD l2.F x m.toNat:Int) < m
 ·rw[bA hc] at ep;exact .inl ⟨λz9=>(bT hs2 hm).mp ((ES ho hm).mp z9) hc,λH' s=>e _ _ _ (by rw[ep]) .NotMapped s⟩
 ·rw[aA hc] at ep;obtain⟨o1,o2,o3⟩:=ym (x:=x) ho hs3 hm;have o4:∀p,pm (ZD t.rs x m []) p=(NE (pw (l * f)) l2.F bk' (.lift n x m)).2 p:=λp=>by rw[o3,ep,show pm t.rs=l2.F from funext hs2]
  exact .inr ⟨(ES ho hm).mpr ((bT hs2 hm).mpr hc),o1,HW hW hl2 en o1 o4,λH' hS' bu=>q _ _ H' (by rw[ep]) hS' (hy.set o4 o2) λc o hc ο ο h3=>bu c o hc (h3 t ht)⟩
theorem Zm (hS:xD A H z l f g tks bk) (hy:Sy tks ls) (hW:Fw ls') (hD:zG (pw (l * f)) ls bk (.guard n x m r) an ls' bk')
  (q:∀v tks' H',an=.ok v->xD A H' z l f g tks' bk'->Sy tks' ls'->Hf z tks H H'->Q' v H') (e:∀w C H',an=.no w->Wd A w C->vC H H'->E' (.ref C) none H'):fc A [.ref z.p,.int n,.int x,.int m,.int r] H Q' E':=by
 obtain⟨rfl,⟨h1,rfl,rfl⟩|⟨l2,hl2,en,rfl,kv',rfl⟩⟩:=hD
 ·exact⟨z,l,f,g,tks,bk',n,x,m,r,rfl,hS,.inl ⟨by rw[hy.keys];exact h1,e _ _ _ rfl .NoTask LC⟩⟩
 have hin:(Sum.inl n:Key)∈cD (yD tks):=by rw[hy.keys];exact jM.mpr ⟨l2,hl2,en⟩
 refine⟨z,l,f,g,tks,bk',n,x,m,r,rfl,hS,?_⟩;by_cases hb:LD (pw (l * f)) x m
 ·exact .inr (.inl ⟨hin,yA (by unfold LD at hb;omega),e _ _ _ (congrArg Prod.fst (bA hb)) .OutOfRoom LC⟩)
 have ep:NE (pw (l * f)) l2.F bk' (.guard n x m r)=if r < 0\/r > 3 then (.no "BadRights",l2.F) else if (gD l2.F x m.toNat:Int) < m then (.no "NotMapped",l2.F) else (.ok .non,BD l2.F (gG l2.F r) x m.toNat):=aA hb
 have hm:0 < m:=by unfold LD at hb;omega
 obtain⟨t,ht,hs1,hs2,hs3⟩:=hy.at2 hl2;have ho:HC t.rs:=(hS.st t ht).choose_spec.2.1;refine .inr (.inr ⟨hin,kA (by unfold LD at hb;omega),t,ht,hs1.trans en,?_⟩);by_cases hr:r < 0\/r > 3
 ·rw[bA hr] at ep;exact .inl ⟨⋯,e _ _ _ (by rw[ep]) .BadRights LC⟩
 rw[aA hr] at ep;refine .inr ⟨⋯,?_⟩;by_cases hc:(gD l2.F x m.toNat:Int) < m
 ·rw[bA hc] at ep;exact .inl ⟨λz9=>(bT hs2 hm).mp ((ES ho hm).mp z9) hc,λH' s=>e _ _ _ (by rw[ep]) .NotMapped s⟩
 ·rw[aA hc] at ep;obtain⟨o1,o2,o3⟩:=zm (x:=x) (r:=r) ho hs3 hm;have o4:∀p,pm (ZD t.rs x m ((aE t.rs x m).map (BI r))) p=(NE (pw (l * f)) l2.F bk' (.guard n x m r)).2 p:=λp=>by rw[o3,ep,show pm t.rs=l2.F from funext hs2]
  exact .inr ⟨(ES ho hm).mpr ((bT hs2 hm).mpr hc),o1,HW hW hl2 en o1 o4,λH' hS' bu=>q _ _ H' (by rw[ep]) hS' (hy.set o4 o2) λc o hc ο ο h3=>bu c o hc (h3 t ht)⟩
theorem Zd (hS:xD A H z l f g tks bk) (hy:Sy tks ls) (hW:Fw ls') {st':Int} (hst:b≠none->st'=st) (hD:zG (pw (l * f)) ls bk (.lay n x m r b st) an ls' bk')
  (q:∀v tks' H',an=.ok v->xD A H' z l f g tks' bk'->Sy tks' ls'->Hf z tks H H'->Q' v H') (e:∀w C H',an=.no w->Wd A w C->vC H H'->E' (.ref C) none H'):gP A [.ref z.p,.int n,.int x,.int m,.int r,bV b,.int st'] H Q' E':=by
 obtain⟨rfl,⟨h1,rfl,rfl⟩|⟨l2,hl2,en,rfl,kv',rfl⟩⟩:=hD
 ·exact⟨z,l,f,g,tks,bk',n,x,m,r,st',b,rfl,hS,.inl ⟨by rw[hy.keys];exact h1,e _ _ _ rfl .NoTask LC⟩⟩
 have hin:(Sum.inl n:Key)∈cD (yD tks):=by rw[hy.keys];exact jM.mpr ⟨l2,hl2,en⟩
 refine⟨z,l,f,g,tks,bk',n,x,m,r,st',b,rfl,hS,?_⟩;by_cases hb:LD (pw (l * f)) x m
 ·exact .inr (.inl ⟨hin,yA (by unfold LD at hb;omega),e _ _ _ (congrArg Prod.fst (bA hb)) .OutOfRoom LC⟩)
 have ep:NE (pw (l * f)) l2.F bk' (.lay n x m r b st)=if r < 0\/r > 3 then (.no "BadRights",l2.F) else match nF bk' b st m with
  |some w=>(.no w,l2.F)
  |none=>if 0 < gD l2.F x m.toNat then (.no "Taken",l2.F) else (.ok .non,BD l2.F (gL x r b st) x m.toNat):=aA hb
 have hm:0 < m:=by unfold LD at hb;omega
 refine .inr (.inr ⟨hin,kA (by unfold LD at hb;omega),?_⟩);by_cases hr:r < 0\/r > 3
 ·rw[bA hr] at ep;exact .inl ⟨⋯,e _ _ _ (by rw[ep]) .BadRights LC⟩
 rw[aA hr] at ep;refine .inr ⟨⋯,?_⟩;have etie:tE b st'=tE b st:=by
  cases b with
  |none=>rfl
  |some b'=>rw[hst (λz=>nomatch z)]
 rw[etie];have main:nF bk' b st m=none->(∀b',b=some b'->∃i:Int,JC bk' (Sum.inl b')=some (.int i)/\0<=st'/\st'<=i - m)->((∀b',b=some b'->∃i:Int,JC bk' (Sum.inl b')=some (.int i)/\0<=st'/\st'<=i - m)/\∃t∈tks,t.n=n/\((aE t.rs x m≠[]/\∀H',vC H H'->E' (.ref A.Ak) none H')\/(aE t.rs x m=[]/\HC (CI t.rs x m r (tE b st))/\(CI t.rs x m r (tE b st)).length<=10000/\∀H',xD A H' z l f g (mF n (CI t.rs x m r (tE b st)) tks) bk'->Bu t.p H H'->Q' .non H'))):=λh1 h2=>by
  rw[h1] at ep;obtain⟨t,ht,hs1,hs2,hs3⟩:=hy.at2 hl2;have ho:HC t.rs:=(hS.st t ht).choose_spec.2.1;refine⟨h2,t,ht,hs1.trans en,?_⟩;by_cases hc:0 < gD l2.F x m.toNat
  ·have ep:NE (pw (l * f)) l2.F bk' (.lay n x m r b st)=(.no "Taken",l2.F):=by rw[ep];exact bA hc
   exact .inl ⟨λz9=>(Yd hs2 hm).mp ((va ho hm).mp z9) hc,λH' s=>e _ _ _ (by rw[ep]) .Taken s⟩
  ·have ep:NE (pw (l * f)) l2.F bk' (.lay n x m r b st)=(.ok .non,BD l2.F (gL x r b st) x m.toNat):=by rw[ep];exact aA hc
   obtain⟨o1,o2,o3⟩:=Sm (x:=x) (r:=r) (st:=st) (b:=b) ho hs3 hm;have o4:∀p,pm (CI t.rs x m r (tE b st)) p=(NE (pw (l * f)) l2.F bk' (.lay n x m r b st)).2 p:=λp=>by rw[o3,ep,show pm t.rs=l2.F from funext hs2]
   exact .inr ⟨(va ho hm).mpr ((Yd hs2 hm).mpr hc),o1,HW hW hl2 en o1 o4,λH' hS' bu=>q _ _ H' (by rw[ep]) hS' (hy.set o4 o2) λc o hc ο ο h3=>bu c o hc (h3 t ht)⟩
 cases b with
 |none=>exact .inr (main rfl λb' z=>nomatch z)
 |some b'=>
  rw[hst (λz=>nomatch z)] at *;cases hv:JC bk' (Sum.inl b') with
  |none=>
   have ep:NE (pw (l * f)) l2.F bk' (.lay n x m r (some b') st)=(.no "NoBank",l2.F):=by rw[ep,sd hv]
   exact .inl ⟨b',rfl,.inl ⟨LM hv,e _ _ _ (by rw[ep]) .NoBank LC⟩⟩
  |some u=>
   obtain⟨i,hi⟩:=hS.vb _ (bN hv);obtain rfl:u=.int i:=hi;by_cases hs:st < 0\/st+m > i
   ·have ep:NE (pw (l * f)) l2.F bk' (.lay n x m r (some b') st)=(.no "OutOfBank",l2.F):=by rw[ep,tP hv,bA hs]
    exact .inl ⟨b',rfl,.inr ⟨i,hv,⋯,e _ _ _ (by rw[ep]) .OutOfBank LC⟩⟩
   ·exact .inr (main (by rw[tP hv,aA hs]) λb2 z9=>by cases z9;exact⟨i,hv,⋯,⋯⟩)
end
inductive ae (A:QD) (vs:List V) (H:Hp) (Q:VK) (E:XK):Prop where
 |mk (z:Hz) (l f g:Int) (tks:List Tk) (bk:Kvs) (ls ls':List Lt) (bk':Kvs) (an:An) (a:Addr) (dd:Dd) (_:vs=[.ref z.p,.ref a]) (_:xD A H z l f g tks bk) (_:Sy tks ls) (_:tks.length < 1000) (_:bk.length < 1000) (_:Fw ls') (_:vH H a dd) (_:zG (pw (l * f)) ls bk dd an ls' bk') (_:(∀v tks' H',an=.ok v->xD A H' z l f g tks' bk'->Sy tks' ls'->Hf z tks H H'->Q v H')) (_:(∀w C H',an=.no w->Wd A w C->vC H H'->E (.ref C) none H')):ae A vs H Q E
noncomputable def mM (A:QD):Sp:=ae A
theorem xP (T:AD K mg A):KD P w K mg base "_law_say" 10 ["_law_house","_law_deed_here"] [] (mM A):=by
 have Ja:=@vW P w K mg base A T;have Jb:=@wW P w K mg base A T;have Ho:=@aM P w K mg base A T;have Na:=@ZL P w K mg base A T;have Jc:=@iP P w K mg base A T;have Nb:=@UL P w K mg base A T;have Le:=@im P w K mg base A T;have N8:=@TL P w K mg base A T;have Nc:=@gm P w K mg base A T;refine T.Q4.have Yk (λvs H Q E z=>?_) ?_
 ·obtain⟨z,l,f,g,tks,bk,ls,ls',bk',an,a,dd,rfl,_⟩:=z;rfl
 ·intro f cdv A' outer s H vs Q E hr z;obtain⟨z,l,f',g,tks,bk,ls,ls',bk',an,a,dd,rfl,hS,hy,hl,hb,hW,ha,hD,q,e⟩:=z;have hs:=OC.of (K:=K) (show H a=some (.tup _) from ha);obtain⟨dx,h1⟩:=hS.me;refine⟨_,(OD (eD (tD pE (MC UC (nC 1) sC (λο ο=>rfl)) wD (rC _)) (EC (YC (YN (nC 0) T.Ah Ja (hr.mono (by decide)) KC))) fD)
   (OD (eD (tD pE (MC UC (nC 1) sC (λο ο=>rfl)) wD (rC _)) (EC (YC (TD (nC 0) T.Ah Jb (hr.mono (by decide)) KC (pC (MC UC (nC 1) sC (λο ο=>rfl)) uC)))) fD)
   (OD (eD (tD pE (MC UC (nC 1) sC (λο ο=>rfl)) wD (rC _)) (EC (YC (TD (nC 0) T.Ah Ho (hr.mono (by decide)) KC (pC (MC UC (nC 1) sC (λο ο=>rfl)) uC)))) fD)
   (OD (eD (tD pE (MC UC (nC 1) sC (λο ο=>rfl)) wD (rC _)) (EC (YC (TD (nC 0) T.Ah Na (hr.mono (by decide)) KC (pC (MC UC (nC 1) sC (λο ο=>rfl)) uC)))) fD)
   (OD (eD (tD pE (MC UC (nC 1) sC (λο ο=>rfl)) wD (rC _)) (EC (YC (TD (nC 0) T.Ah Jc (hr.mono (by decide)) KC (pC (MC UC (nC 1) sC (λο ο=>rfl)) uC)))) fD)
   (OD (eD (tD pE (MC UC (nC 1) sC (λο ο=>rfl)) wD (rC _)) (EC (YC (TD (nC 0) T.Ah Nb (hr.mono (by decide)) KC (pC (MC UC (nC 1) sC (λο ο=>rfl)) (pC (MC UC (nC 1) sC (λο ο=>rfl)) (pC (MC UC (nC 1) sC (λο ο=>rfl)) uC)))))) fD)
   (OD (eD (tD pE (MC UC (nC 1) sC (λο ο=>rfl)) wD (rC _)) (EC (YC (TD (nC 0) T.Ah Le (hr.mono (by decide)) KC (pC (MC UC (nC 1) sC (λο ο=>rfl)) (pC (MC UC (nC 1) sC (λο ο=>rfl)) (pC (MC UC (nC 1) sC (λο ο=>rfl)) (pC (MC UC (nC 1) sC (λο ο=>rfl)) uC))))))) fD)
   (NC (eD (tD sI (MC UC (nC 1) sC (λο ο=>rfl)) XE (rC _)) (EC (YC (TD (nC 0) T.Ah Nc (hr.mono (by decide)) KC (pC (MC UC (nC 1) sC (λο ο=>rfl)) (pC (MC UC (nC 1) sC (λο ο=>rfl)) (pC (MC UC (nC 1) sC (λο ο=>rfl)) (pC (MC UC (nC 1) sC (λο ο=>rfl)) uC))))))) fD)
   (EC (YC (TD (nC 0) T.Ah N8 (hr.mono (by decide)) KC (@pC _ _ _ _ _ (MC UC (nC 1) sC (λο ο=>rfl)) (@pC _ _ _ _ _ (MC UC (nC 1) sC (λο ο=>rfl)) (@pC _ _ _ _ _ (MC UC (nC 1) sC (λο ο=>rfl)) (@pC _ _ _ _ _ (MC UC (nC 1) sC (λο ο=>rfl)) (@pC _ _ _ _ _ (MC UC (nC 1) sC (λο ο=>rfl)) (@pC _ _ _ _ _ (MC UC (nC 1) sC (λο ο=>rfl)) uC rfl) rfl) rfl) rfl) rfl) rfl)))))))))))),?_⟩
  rfl';refine RC (λσ G=>σ=[some (.ref z.p),some (.ref a)]/\G=H/\dd≠.new) ?_ λU9 D9 hU9 hD9 σ0 H0=>?_
  ·rfl';refine⟨_,hs,.str dd.wd,JD (j:=0) dd.vs0,rfl,?_⟩;refine VC (λhc=>?_) (λhc=>λe=>hc (by rw[e];rfl));cases dd with
   |new=>exact⟨dx,_,h1,rfl,kM hS hy hl hD q⟩
   |_=>exact absurd (V.str.inj hc) (by simp only[Dd.wd];decide+kernel)
  rintro⟨rfl,hG0,d0⟩;subst hU9 hD9;obtain rfl:H=H0:=hG0.symm;refine RC (λσ G=>σ=[some (.ref z.p),some (.ref a)]/\G=H/\∀n,dd≠.bank n) ?_ λU9 D9 hU9 hD9 σ1 H1=>?_
  ·rfl';refine⟨_,hs,.str dd.wd,JD (j:=0) dd.vs0,rfl,?_⟩;refine VC (λhc=>?_) (λhc=>λn e=>hc (by rw[e];rfl));cases dd with
   |bank n=>exact⟨dx,_,h1,rfl,_,hs,.int n,rfl,Vm hS hy hb hD q e⟩
   |_=>exact absurd (V.str.inj hc) (by simp only[Dd.wd];decide+kernel)
  rintro⟨rfl,hG1,d1⟩;subst hU9 hD9;obtain rfl:H=H1:=hG1.symm;refine RC (λσ G=>σ=[some (.ref z.p),some (.ref a)]/\G=H/\∀n,dd≠.drop n) ?_ λU9 D9 hU9 hD9 σ2 H2=>?_
  ·rfl';refine⟨_,hs,.str dd.wd,JD (j:=0) dd.vs0,rfl,?_⟩;refine VC (λhc=>?_) (λhc=>λn e=>hc (by rw[e];rfl));cases dd with
   |drop n=>exact⟨dx,_,h1,rfl,_,hs,.int n,rfl,Wm hS hy hl hD q e⟩
   |_=>exact absurd (V.str.inj hc) (by simp only[Dd.wd];decide+kernel)
  rintro⟨rfl,hG2,d2⟩;subst hU9 hD9;obtain rfl:H=H2:=hG2.symm;refine RC (λσ G=>σ=[some (.ref z.p),some (.ref a)]/\G=H/\∀n,dd≠.fork n) ?_ λU9 D9 hU9 hD9 σ3 H3=>?_
  ·rfl';refine⟨_,hs,.str dd.wd,JD (j:=0) dd.vs0,rfl,?_⟩;refine VC (λhc=>?_) (λhc=>λn e=>hc (by rw[e];rfl));cases dd with
   |fork n=>exact⟨dx,_,h1,rfl,_,hs,.int n,rfl,Xm hS hy hl hD q e⟩
   |_=>exact absurd (V.str.inj hc) (by simp only[Dd.wd];decide+kernel)
  rintro⟨rfl,hG3,d3⟩;subst hU9 hD9;obtain rfl:H=H3:=hG3.symm;refine RC (λσ G=>σ=[some (.ref z.p),some (.ref a)]/\G=H/\∀n,dd≠.fin n) ?_ λU9 D9 hU9 hD9 σ4 H4=>?_
  ·rfl';refine⟨_,hs,.str dd.wd,JD (j:=0) dd.vs0,rfl,?_⟩;refine VC (λhc=>?_) (λhc=>λn e=>hc (by rw[e];rfl));cases dd with
   |fin n=>exact⟨dx,_,h1,rfl,_,hs,.int n,rfl,lM hS hy hD q e⟩
   |_=>exact absurd (V.str.inj hc) (by simp only[Dd.wd];decide+kernel)
  rintro⟨rfl,hG4,d4⟩;subst hU9 hD9;obtain rfl:H=H4:=hG4.symm;refine RC (λσ G=>σ=[some (.ref z.p),some (.ref a)]/\G=H/\∀n x m,dd≠.lift n x m) ?_ λU9 D9 hU9 hD9 σ5 H5=>?_
  ·rfl';refine⟨_,hs,.str dd.wd,JD (j:=0) dd.vs0,rfl,?_⟩;refine VC (λhc=>?_) (λhc=>λn x m e=>hc (by rw[e];rfl));cases dd with
   |lift n x m=>exact⟨dx,_,h1,rfl,_,hs,.int n,rfl,_,hs,.int x,rfl,_,hs,.int m,rfl,Ym hS hy hW hD q e⟩
   |_=>exact absurd (V.str.inj hc) (by simp only[Dd.wd];decide+kernel)
  rintro⟨rfl,hG5,d5⟩;subst hU9 hD9;obtain rfl:H=H5:=hG5.symm;refine RC (λσ G=>σ=[some (.ref z.p),some (.ref a)]/\G=H/\∀n x m r,dd≠.guard n x m r) ?_ λU9 D9 hU9 hD9 σ6 H6=>?_
  ·rfl';refine⟨_,hs,.str dd.wd,JD (j:=0) dd.vs0,rfl,?_⟩;refine VC (λhc=>?_) (λhc=>λn x m r e=>hc (by rw[e];rfl));cases dd with
   |guard n x m r=>exact⟨dx,_,h1,rfl,_,hs,.int n,rfl,_,hs,.int x,rfl,_,hs,.int m,rfl,_,hs,.int r,rfl,Zm hS hy hW hD q e⟩
   |_=>exact absurd (V.str.inj hc) (by simp only[Dd.wd];decide+kernel)
  rintro⟨rfl,hG6,d6⟩;subst hU9 hD9;obtain rfl:H=H6:=hG6.symm;cases dd with
  |lay n x m r b st=>
   rfl';refine⟨_,hs,bV b,rfl,?_⟩;cases b with
   |none=>
    rw[bA (show bV none=V.non from rfl)];exact⟨dx,_,h1,rfl,_,hs,.int n,rfl,_,hs,.int x,rfl,_,hs,.int m,rfl,_,hs,.int r,rfl,Zd (b:=none) (st':=0) hS hy hW (λz=>absurd rfl z) hD q e⟩
   |some b'=>
    rw[aA (λz=>nomatch z)];exact⟨dx,_,h1,rfl,_,hs,.int n,rfl,_,hs,.int x,rfl,_,hs,.int m,rfl,_,hs,.int r,rfl,_,hs,.int b',rfl,_,hs,.int st,rfl,Zd (b:=some b') (st':=st) hS hy hW (λο=>rfl) hD q e⟩
  |new=>exact absurd rfl d0
  |bank n=>exact absurd rfl (d1 n)
  |drop n=>exact absurd rfl (d2 n)
  |fork n=>exact absurd rfl (d3 n)
  |fin n=>exact absurd rfl (d4 n)
  |lift n x m=>exact absurd rfl (d5 n x m)
  |guard n x m r=>exact absurd rfl (d6 n x m r)
inductive ce (A:QD) (vs:List V) (H:Hp) (Q:VK) (E:XK):Prop where
 |mk (z:Hz) (l f g:Int) (tks:List Tk) (bk:Kvs) (ls ls':List Lt) (bk':Kvs) (an:An) (a:Addr) (dd:Dd) (_:vs=[.ref z.p,.ref a]) (_:xD A H z l f g tks bk) (_:Sy tks ls) (_:tks.length < 1000) (_:bk.length < 1000) (_:Fw ls') (_:(ls.map Lt.n).Nodup) (_:vH H a dd) (_:zG (pw (l * f)) ls bk dd an ls' bk') (_:∀tks' H' b,xD A H' z l f g tks' bk'->Sy tks' ls'->Hf z tks H H'->wH H' b an->Q (.ref b) H'):ce A vs H Q E
noncomputable def nM (A:QD):Sp:=ce A
theorem oM {pg:Int} {F:Int->Option Og} {bk:Kvs} {dd:Dd} {w:Str} (h:(NE pg F bk dd).1=.no w):(NE pg F bk dd).2=F:=by
 cases dd with
 |lift n x m=>
  have e:NE pg F bk (.lift n x m)=if LD pg x m then (.no "OutOfRoom",F) else if (gD F x m.toNat:Int) < m then (.no "NotMapped",F) else (.ok .non,BD F (λο=>none) x m.toNat):=rfl
  rw[e] at h ⊢;by_cases c1:LD pg x m
  ·rw[bA c1]
  ·rw[aA c1] at h ⊢;by_cases c2:(gD F x m.toNat:Int) < m
   ·rw[bA c2]
   ·rw[aA c2] at h;cases h
 |guard n x m r=>
  have e:NE pg F bk (.guard n x m r)=if LD pg x m then (.no "OutOfRoom",F) else if r < 0\/r > 3 then (.no "BadRights",F) else if (gD F x m.toNat:Int) < m then (.no "NotMapped",F) else (.ok .non,BD F (gG F r) x m.toNat):=rfl
  rw[e] at h ⊢;by_cases c1:LD pg x m
  ·rw[bA c1]
  ·rw[aA c1] at h ⊢;by_cases c3:r < 0\/r > 3
   ·rw[bA c3]
   ·rw[aA c3] at h ⊢;by_cases c2:(gD F x m.toNat:Int) < m
    ·rw[bA c2]
    ·rw[aA c2] at h;cases h
 |lay n x m r b st=>
  have e:NE pg F bk (.lay n x m r b st)=if LD pg x m then (.no "OutOfRoom",F) else if r < 0\/r > 3 then (.no "BadRights",F) else match nF bk b st m with
   |some w=>(.no w,F)
   |none=>if 0 < gD F x m.toNat then (.no "Taken",F) else (.ok .non,BD F (gL x r b st) x m.toNat):=rfl
  rw[e] at h ⊢;by_cases c1:LD pg x m
  ·rw[bA c1]
  ·rw[aA c1] at h ⊢;by_cases c3:r < 0\/r > 3
   ·rw[bA c3]
   ·rw[aA c3] at h ⊢;cases hb:nF bk b st m with
    |some w=>rfl
    |none=>
     rw[hb] at h;have h:(if 0 < gD F x m.toNat then ((.no "Taken",F):An×(Int->Option Og)) else (.ok .non,BD F (gL x r b st) x m.toNat)).1=.no w:=h;show (if 0 < gD F x m.toNat then ((.no "Taken",F):An×(Int->Option Og)) else (.ok .non,BD F (gL x r b st) x m.toNat)).2=F;by_cases c2:0 < gD F x m.toNat
     ·rw[bA c2]
     ·rw[aA c2] at h;cases h
 |_=>rfl
theorem Sy.setF {tks:List Tk} {ls:List Lt} {n:Int} {kv:Kvs} {F:Int->Option Og} (h:Sy tks ls) (hF:∀l∈ls,l.n=n->l.F=F):Sy tks (UE n kv F ls):=by
 unfold Sy at *
 induction h with
 |nil=>exact .nil
 |@cons t l _ _ r _ ih=>
  refine .cons ?_ (ih λl hl=>hF l (fA _ hl));show nK t (if l.n=n then {l with kv:=kv,F:=F} else l);by_cases c:l.n=n
  ·rw[bA c];exact⟨r.1,λp=>by rw[r.2.1,hF l cA c],r.2.2⟩
  ·rw[aA c];exact r
theorem pM {pg:Int} {tks:List Tk} {ls ls':List Lt} {bk bk':Kvs} {dd:Dd} {w:Str} (h:zG pg ls bk dd (.no w) ls' bk') (nn:(ls.map Lt.n).Nodup) (hy:Sy tks ls):Sy tks ls'/\bk'=bk:=by
 have pages:(bk'=bk/\((Sum.inl dd.num∉cD (ls.map ltK)/\(An.no w)=.no "NoTask"/\ls'=ls)\/∃l∈ls,l.n=dd.num/\(An.no w)=(NE pg l.F bk dd).1/\∃kv',ls'=UE dd.num kv' (NE pg l.F bk dd).2 ls))->Sy tks ls'/\bk'=bk:=by
  rintro⟨rfl,⟨_,_,rfl⟩|⟨l,hl,en,e,kv',rfl⟩⟩
  ·exact⟨hy,rfl⟩
  ·rw[oM e.symm];exact⟨hy.setF λx hx ex=>by rw[Td nn hx hl (ex.trans en.symm)],rfl⟩
 cases dd with
 |new=>obtain⟨_,_,_,_,e,_⟩:=h;cases e
 |bank n=>
  obtain⟨rfl,⟨_,_,rfl⟩|⟨_,_,_,e,_⟩⟩:=h
  ·exact⟨hy,rfl⟩
  ·cases e
 |drop n=>
  obtain⟨rfl,⟨_,_,rfl⟩|⟨_,_,_,rfl⟩|⟨_,_,e,_⟩⟩:=h
  ·exact⟨hy,rfl⟩
  ·exact⟨hy,rfl⟩
  ·cases e
 |fork n=>
  obtain⟨rfl,⟨_,_,rfl⟩|⟨_,_,_,_,_,_,e,_⟩⟩:=h
  ·exact⟨hy,rfl⟩
  ·cases e
 |fin n=>
  obtain⟨rfl,⟨_,_,rfl⟩|⟨_,_,_,e,_⟩⟩:=h
  ·exact⟨hy,rfl⟩
  ·cases e
 |lift n x m=>exact pages h
 |guard n x m r=>exact pages h
 |lay n x m r b st=>exact pages h
theorem yP (T:AD K mg A):KD P w K mg base "_law_answer" 11 ["_law_house","_law_deed_here"] [] (nM A):=by
 have Rt:=@xP P w K mg base A T;have HH_l_word:=@Vc P w K mg base A T;refine T.Oi.have IV (λvs H Q E z=>?_) ?_
 ·obtain⟨z,l,f,g,tks,bk,ls,ls',bk',an,a,dd,rfl,_⟩:=z;rfl
 ·intro f cdv A' outer s H vs Q E hr z;obtain⟨z,l,f',g,tks,bk,ls,ls',bk',an,a,dd,rfl,hS,hy,hl,hb,hW,hnn,ha,hD,q⟩:=z;refine⟨_,(NC (n6 (i:=3) IV.nd rfl rfl T.Fy (λο ο ο po1 xw1=>(EC (sD (i:=2) IV.nd rfl (Or.inl rfl) (lD Rt (hr.mono (by decide)) xw1 (pC (nC 0) (pC (nC 1) uC)))))) fD (λο=>(EC (YC (YD (pC wD (pC (Y7 HH_l_word ((hr.h.mono (by decide)).mark) (pC (nC 3) uC)) uC)))))))
   (EC (YC (YD (pC wD (pC (nC 2) uC)))))),?_⟩
  unfold BW;rfl';refine⟨z,l,f',g,tks,bk,ls,ls',bk',an,a,dd,rfl,hS,hy,hl,hb,hW,ha,hD,λv tks' H' ean hS' hy' hf p hp=>?_,λw9 C H' ean hWd sm=>⟨C,rfl,hWd.sub T,λea hea=>⟨w9,hWd,λp hp=>?_⟩⟩⟩
  ·have s9:=dD (o:=.tup [V.str "ok",v]) (LC (H:=H')) hp;exact q tks' _ p (hS'.same s9) hy' (λc o hc h1 h2 h3=>s9 _ _ (hf c o hc h1 h2 h3)) (by rw[ean];exact SC)
  ·have s9:=(sm.trans (dD (o:=rF ea C) LC hea)).trans (dD (o:=.tup [V.str "no",V.str w9]) LC hp);rw[ean] at hD;obtain⟨hy2,rfl⟩:=pM hD hnn hy;exact q tks _ p (hS.same s9) hy2 (λc o hc ο ο ο=>s9 _ _ hc) (by rw[ean];exact SC)
theorem IW {H:Hp} {v:V}:∀{t:Option (Int×Int)},vD H v t->yE H (WF t) v
 |none,h=>by unfold WF yE;exact⟨h,rfl⟩
 |some (b,k),⟨a,e,h⟩=>by
  simp only[WF,yE,WD];exact⟨a,_,e,h,(by show (2:Nat) < 16777216;decide),_,_,rfl,⟨rfl,rfl⟩,_,_,rfl,⟨rfl,rfl⟩,rfl⟩
theorem bn {H:Hp} {v:V} {r:Rn} (h:bD H v r):yE H (xF r) v:=by
 obtain⟨a,tv,e,h1,h2⟩:=h;have ht:=IW h2;unfold xF;generalize WF r.t=dt at *;simp only[yE,WD];exact⟨a,_,e,h1,(by show (4:Nat) < 16777216;decide),_,_,rfl,⟨rfl,rfl⟩,_,_,rfl,⟨rfl,rfl⟩,_,_,rfl,⟨rfl,rfl⟩,_,_,rfl,ht,rfl⟩
theorem de {H:Hp}:∀{vs:List V} {rs:List Rn},xC H vs rs->WD H (rs.map xF) vs
 |_,_,.nil=>by unfold WD;rfl
 |_,_,.cons r t=>by
  rw[QA];unfold WD;exact⟨_,_,rfl,bn r,de t⟩
theorem cT {H:Hp} {a:Addr} {vs:List V} {rs:List Rn} (h:H a=some (.lst vs)) (hr:xC H vs rs) (hl:rs.length<=10000):yE H (.seq false (rs.map xF)) (.ref a):=by
 unfold yE;exact⟨a,vs,rfl,h,by rw[dA];omega,de hr⟩
inductive fe (A:QD) (vs:List V) (H:Hp) (Q:VK) (E:XK):Prop where
 |mk (z:Hz) (l f g:Int) (tks:List Tk) (bk:Kvs) (n x:Int) (_:vs=[.ref z.p,.int n,.int x]) (_:xD A H z l f g tks bk) (_:Sum.inl n∉cD (yD tks)) (_:∀H',vC H H'->Q (.bl true) H'):fe A vs H Q E
noncomputable def cn (A:QD):Sp:=fe A
theorem qM (T:AD K mg A):KD P w K mg base "_law_no_task" 8 ["_law_house","_law_task","_law_page"] [] (cn A):=by
 have Bo:=@eK P w K mg base A T;have Bv:=@fK P w K mg base A T;have A0:=@bM P w K mg base A T;have HH_l_word:=@Vc P w K mg base A T;refine T.Nn.have QO (λvs H Q E z=>?_) ?_
 ·obtain⟨z,l,f,g,tks,bk,n,x,rfl,_⟩:=z;rfl
 ·intro f cdv A' outer s H vs Q E hr z;obtain⟨z,l,f',g,tks,bk,n,x,rfl,hS,hn,q⟩:=z;refine⟨_,(NC (DG WA rfl (BM rfl T.B4 (pC sC uC)) (pF (i:=3) QO.nd rfl (Or.inl rfl)) (NC (sD (i:=4) QO.nd rfl (Or.inl rfl) wD)
   (OD (n6 (i:=5) QO.nd rfl rfl T.Fy (λο ο ο po1 xw1=>(NC (eD (tD pE (nC 3) sC (rC _)) (EC (uE (TD (nC 0) T.Ah Bo (hr.mono (by decide)) xw1 (pC (nC 1) (pC (nC 2) uC))))) fD)
   (NC (eD (tD pE (nC 3) sC (rC _)) (EC (uE (TD (nC 0) T.Ah Bv (hr.mono (by decide)) xw1 (pC (nC 1) (pC (nC 2) uC))))) fD)
   (EC (eD (tD pE (nC 3) sC (rC _)) (EC (uE (TD (nC 0) T.Ah A0 (hr.mono (by decide)) xw1 (pC (nC 1) uC)))) fD))))) fD (λο=>(EC (sD (i:=4) QO.nd rfl (Or.inl rfl) (Y7 HH_l_word ((hr.h.mono (by decide)).mark) (pC (nC 5) uC))))))
   (EC (eD (tD ER (nC 4) wD (rC _)) (EC (YC oG)) fD)))))
   (EC (YC oG))),?_⟩
  rfl';refine QM (λk σ G=>∃v3 v4 v5,σ=[some (.ref z.p),some (.int n),some (.int x),v3,v4,v5]/\vC H G) ⟨_,_,_,rfl,LC⟩ (λk σ G hk=>?_) (λσ G=>?_)
  ·rintro⟨v3,v4,v5,rfl,s1⟩;rw[Int.zero_add];have hS1:=hS.same s1;obtain⟨dx,h1⟩:=hS1.me;rfl';refine RC (λσ G'=>∃v5,σ=[some (.ref z.p),some (.int n),some (.int x),some (.int (k:Int)),some (.str "NoTask"),v5]/\vC H G') ?_ λU9 D9 hU9 hD9 σ2 G2=>?_
   ·unfold BW;rfl';have ex:∃C,Value.ref A.Ag=Value.ref C/\kF K C A.Al/\∀(ea:Addr),G ea=none->∃x,Wd A x C/\x=Str.ofString "NoTask"/\vC H (yC G ea (rF ea C)):=⟨A.Ag,rfl,Wd.sub T .NoTask,λea hea=>⟨_,.NoTask,rfl,s1.trans (dD LC hea)⟩⟩
    refine VC (λο=>⟨dx,_,h1,wF ∅,z,l,f',g,tks,bk,n,x,rfl,hS1,.inl ⟨hn,ex⟩⟩) (λc0=>VC (λο=>⟨dx,_,h1,wF ∅,z,l,f',g,tks,bk,n,x,rfl,hS1,.inl ⟨hn,ex⟩⟩) (λc1=>VC (λο=>⟨dx,_,h1,wF ∅,z,l,f',g,tks,bk,n,rfl,hS1,.inl ⟨hn,ex⟩⟩) (λc2=>?_)));exact absurd hk ⋯
   rintro⟨v5,rfl,s2⟩;subst hU9 hD9;rfl';exact VG rfl s2
  ·rintro⟨v3,v4,v5,rfl,s1⟩;rfl';exact q _ s1
theorem ie {ns a b:List Int} (h1:a.Perm ns) (h2:a.Pairwise (·<=·)) (h3:b.Perm ns) (h4:b.Pairwise (·<=·)):a=b:=(h1.trans h3.symm).eq_of_pairwise (λx y ο ο p q=>Int.le_antisymm p q) h2 h4
theorem eT {H:Hp} {a:Addr} {ms:List Int} (h:H a=some (.lst (ms.map V.int))) (hl:ms.length < 16777216):yE H (.seq false (ms.map λi=>.leaf (.int i))) (.ref a):=by
 unfold yE;refine⟨a,_,rfl,h,by rw[dA];exact hl,?_⟩;clear h hl
 induction ms with
 |nil=>unfold WD;rfl
 |cons i ms ih=>
  unfold WD;exact⟨_,_,rfl,by unfold yE;exact⟨rfl,rfl⟩,ih⟩
theorem kO {ms:List Int}:FD (.seq false (ms.map λi=>Dv.leaf (.int i)))<=2:=by
 rw[FD];have:QC (ms.map λi=>Dv.leaf (.int i))<=1:=by
  induction ms with
  |nil=>rw[KB,QC];omega
  |cons i ms ih=>rw[QA,QC,FD];omega
 omega
theorem zP {H:Hp} {a:Addr} {u v:V} {d1 d2:Dv} (h:H a=some (.tup [u,v])) (h1:yE H d1 u) (h2:yE H d2 v):yE H (.seq true [d1,d2]) (.ref a):=by
 unfold yE;refine⟨a,_,rfl,h,by show (2:Nat) < 16777216;decide,?_⟩;unfold WD;refine⟨_,_,rfl,h1,?_⟩;unfold WD;exact⟨_,_,rfl,h2,by unfold WD;rfl⟩
theorem je {H:Hp} {g:Option Og}:yE H (.leaf (oR g)) (oR g):=by
 cases g with
 |none=>unfold yE;exact⟨rfl,rfl⟩
 |some g=>unfold yE;exact⟨rfl,rfl⟩
theorem dn {v:V} {t:Option (Int×Int)}:FD (.seq true [.leaf v,WF t])<=5:=by
 cases t with
 |none=>unfold WF;rw[FD,QC,QC,QC,FD,FD];decide
 |some t=>unfold WF;rw[FD,QC,QC,QC,FD,FD,QC,QC,QC,FD,FD];decide
theorem ke {rs:List Rn}:FD (.seq false (rs.map xF))<=5:=by
 have:=(AW rs).2.2;rw[FD];omega
structure pK (A:QD) (H:Hp) (z:Hz) (l f g:Int) (N:Nat) (tks:List Tk) (bk:Kvs) (td bd:Addr) (ls:List Lt):Prop where
 h:xD A H z l f g tks bk
 w:MD H N td bd ls bk
 y:Sy tks ls
 a1:z.td∉td::bd::ls.map Lt.d
 a2:z.bd∉td::bd::ls.map Lt.d
theorem pK.same {A:QD} {H H':Hp} {z:Hz} {l f g:Int} {N:Nat} {tks:List Tk} {bk:Kvs} {td bd:Addr} {ls:List Lt} (h:pK A H z l f g N tks bk td bd ls) (s:vC H H'):pK A H' z l f g N tks bk td bd ls:=⟨h.h.same s,h.w.same s,h.y,h.a1,h.a2⟩
theorem pK.tik {A:QD} {H:Hp} {z:Hz} {l f g:Int} {N:Nat} {tks:List Tk} {bk:Kvs} {td bd:Addr} {ls:List Lt} (h:pK A H z l f g N tks bk td bd ls):(cD (yD tks)).map kI=ls.map Lt.n:=by
 rw[h.y.keys,XS,HB];rfl
inductive qe (A:QD) (vs:List V) (H:Hp) (Q:VK) (E:XK):Prop where
 |mk (z:Hz) (l f g:Int) (N:Nat) (tks:List Tk) (bk:Kvs) (td bd:Addr) (ls:List Lt) (pg c:Int) (_:vs=[.ref z.p,.ref td,.ref bd,.int pg,.int c]) (_:pK A H z l f g N tks bk td bd ls) (_:N < 10000) (_:tks.length < 64) (_:bk.length < 64) (_:0 < pg) (_:∀H',Q (.bl true) H'):qe A vs H Q E
noncomputable def gn (A:QD):Sp:=qe A
theorem rM (T:AD K mg A):KD P w K mg base "_law_told_all" 9 ["_law_house","_law_tasks","_law_banks","_law_pages","_law_cell"] [] (gn A):=by
 have Bo:=@eK P w K mg base A T;have Bv:=@fK P w K mg base A T;have A0:=@bM P w K mg base A T;have Hq:=@xW P w K mg base A T;have Hr:=@yW P w K mg base A T;have Hs:=@zW P w K mg base A T;have Bd:=@yc P w K mg base A T 6;have Bw:=@sP P w K mg base A T;have Au:=@SS P w K mg base A T;refine T.Lh.have bJ (λvs H Q E z=>?_) ?_
 ·obtain⟨z,l,f,g,N,tks,bk,td,bd,ls,pg,c,rfl,_⟩:=z;rfl
 ·intro f cdv A' outer s H vs Q E hr z;obtain⟨z,l,f',g,N,tks,bk,td,bd,ls,pg,c,rfl,hS,hN,htl,hbl,hpg,q⟩:=z;have hsz:=PySem.sizeLine_eq;have hik:eF (cD (yD tks)):=λk hk=>by
   rw[hS.y.keys,XS] at hk;obtain⟨l9,_,rfl⟩:=xA.mp hk;exact⟨l9.n,rfl⟩
  refine⟨_,(OD (eD (PW.pt (HH (ZF (xE (lD Bd (hr.mono (by decide)) KC (pC (YN (nC 0) T.Ah Hq (hr.mono (by decide)) KC) (pC (SD (cI rfl) rfl T.Bb gB (pC (nC 1) uC)) uC))))) (HI (ZF (xE (lD Bd (hr.mono (by decide)) KC (pC (YN (nC 0) T.Ah Hr (hr.mono (by decide)) KC) (pC (SD (cI rfl) rfl T.Bb gB (pC (nC 2) uC)) uC)))))))) (EC (YC oG)) fD)
   (OD (DG WA rfl (AG (SD (cI rfl) rfl T.Bb gB (pC (nC 2) uC))) (pF (i:=5) bJ.nd rfl (Or.inl rfl)) (EC (eD (ZF (xE (lD Bd (hr.mono (by decide)) KC (pC (TD (nC 0) T.Ah Hs (hr.mono (by decide)) KC (pC (nC 5) uC)) (pC (hG (vE hr) (nC 2) (nC 5) (λο ο=>rfl)) uC))))) (EC (YC oG)) fD)))
   (OD (DG WA rfl (AG (SD (cI rfl) rfl T.Bb gB (pC (nC 1) uC))) (pF (i:=6) bJ.nd rfl (Or.inl rfl)) (NC (sD (i:=7) bJ.nd rfl (Or.inl rfl) (hG (vE hr) (nC 1) (nC 6) (λο ο=>rfl)))
   (OD (DG WA rfl (BM rfl T.B4 (pC sC uC)) (pF (i:=8) bJ.nd rfl (Or.inl rfl)) (NC (sD (i:=9) bJ.nd rfl (Or.inl rfl) (TD (nC 0) T.Ah A0 (hr.mono (by decide)) KC (pC (nC 6) uC)))
   (OD (eD (ZF (xE (lD Bd (hr.mono (by decide)) KC (pC (nC 9) (pC (lD Bw (hr.mono (by decide)) KC (pC (nC 7) uC)) uC))))) (EC (YC oG)) fD)
   (EC (uE (QT PySem.F.plainAttrs_list PySem.F.slot_list_clear PySem.F.type_list_clear Ug (nC 9)))))))
   (EC (DG WA rfl (AG (ZC HM (EM FM (ZC HM (SD (cI rfl) rfl T.Bb gB (pC (nC 7) uC)) (zH (pC sC uC))) NT (LI sC)) (zH (pC (lD Au (hr.mono (by decide)) KC (pC (nC 4) (pC (nC 6) (pC (nC 3) uC)))) uC)))) (pF (i:=10) bJ.nd rfl (Or.inl rfl)) (NC (sD (i:=11) bJ.nd rfl (Or.inl rfl) (YD (pC XE (pC XE uC))))
   (OD (eD (nI (VN (vE hr) (nC 10) (nC 7))) (EC (sD (i:=11) bJ.nd rfl (Or.inl rfl) (hG (vE hr) (nC 7) (nC 10) (λο ο=>rfl)))) fD)
   (EC (eD (ZF (xE (lD Bd (hr.mono (by decide)) KC (pC (YD (pC (TD (nC 0) T.Ah Bo (hr.mono (by decide)) KC (pC (nC 6) (pC (nC 10) uC))) (pC (TD (nC 0) T.Ah Bv (hr.mono (by decide)) KC (pC (nC 6) (pC (nC 10) uC))) uC))) (pC (nC 11) uC))))) (EC (YC oG)) fD)))))))))
   (EC (YC oG))))),?_⟩
  rfl';refine RC (λσ G=>σ=[some (.ref z.p),some (.ref td),some (.ref bd),some (.int pg),some (.int c),none,none,none,none,none,none,none]/\vC H G) ?_ λU9 D9 hU9 hD9 σ1 H1=>?_
  ·obtain⟨dx,h1⟩:=hS.h.me;rfl';refine⟨dx,_,h1,wF ∅,z,l,f',g,tks,bk,rfl,hS.h,hik,htl,λl1 ms hl1 hms=>?_⟩;have s1:=dD (o:=.lst (ms.map V.int)) (LC (H:=H)) hl1;have g1:yC H l1 (.lst (ms.map V.int)) l1=some (.lst (ms.map V.int)):=SC;generalize yC H l1 _=H1 at *;refine⟨ls.map ltK,.inl (s1 _ _ hS.w.t),ls.map Lt.n,GW,λl2 ms2 hl2 p2 w2=>?_⟩;have e2:ms=ms2:=ie hms.1 hms.2 (by rw[hS.tik];exact p2) w2;subst e2;have s2:=s1.trans (dD (o:=.lst (ms.map V.int)) (LC (H:=H1)) hl2);have g2:yC H1 l2 (.lst (ms.map V.int)) l2=some (.lst (ms.map V.int)):=SC;have g12:=(dD (o:=.lst (ms.map V.int)) (LC (H:=H1)) hl2) _ _ g1;generalize yC H1 l2 _=H2 at *;have hml:ms.length < 16777216:=by rw[p2.length_eq,dA];have:=hS.w.sl;omega
   refine⟨_,_,_,rfl,eT g12 hml,eT g2 hml,YA kO (by decide),λH3 s3=>⟨true,rfl,VG rfl ?_⟩⟩;have hS3:=hS.same (s2.trans s3);refine⟨dx,_,(s2.trans s3) _ _ h1,wF ∅,z,l,f',g,tks,bk,rfl,hS3.h,hS.w.ib,hbl,λl4 ms4 hl4 hms4=>?_⟩;have s4:=(s2.trans s3).trans (dD (o:=.lst (ms4.map V.int)) (LC (H:=H3)) hl4);have g4:yC H3 l4 (.lst (ms4.map V.int)) l4=some (.lst (ms4.map V.int)):=SC;generalize yC H3 l4 _=H4 at *;refine⟨bk,.inl (s4 _ _ hS.w.b),(cD bk).map kI,hS.w.ib.ns,λl5 ms5 hl5 p5 w5=>?_⟩;have e5:ms4=ms5:=ie hms4.1 hms4.2 p5 w5;subst e5;have s5:=dD (o:=.lst (ms4.map V.int)) (LC (H:=H4)) hl5;have hml:ms4.length < 16777216:=by rw[p5.length_eq];unfold cD;rw[dA,dA];omega
   exact⟨_,_,_,rfl,eT (s5 _ _ g4) hml,eT SC hml,YA kO (by decide),λH6 s6=>⟨true,rfl,VG rfl ((s4.trans s5).trans s6)⟩⟩
  rintro⟨rfl,s1⟩;subst hU9 hD9;refine RC (λσ G=>∃v5,σ=[some (.ref z.p),some (.ref td),some (.ref bd),some (.int pg),some (.int c),v5,none,none,none,none,none,none]/\vC H G) ?_ λU9 D9 hU9 hD9 σ2 H2=>?_
  ·rfl';refine⟨bk,.inl (s1 _ _ hS.w.b),(cD bk).map kI,hS.w.ib.ns,λl1 ms hl1 hp hw=>?_⟩;have s2:=s1.trans (dD (o:=.lst (ms.map V.int)) (LC (H:=H1)) hl1);have g2:yC H1 l1 (.lst (ms.map V.int)) l1=some (.lst (ms.map V.int)):=SC;generalize yC H1 l1 _=H2 at *;refine⟨⟨_,aD.of g2⟩,VI (K:=K) (xs:=ms.map V.int) (λi σ G=>∃v5,σ=[some (.ref z.p),some (.ref td),some (.ref bd),some (.int pg),some (.int c),v5,none,none,none,none,none,none]/\vC H2 G) ⟨_,rfl,LC⟩ (λi σ G _ ⟨_,_,e⟩=>aD.of (e _ _ g2)) (λi v σ G hi=>?_) (λσ G=>?_)⟩
   ·rintro⟨v5,rfl,s3⟩;rw[UA] at hi;obtain⟨b,hb,rfl⟩:=HA.mp hi;have hbk:(Sum.inl b:Key)∈cD bk:=by
     have h9:=hp.mem_iff.mp (fB hb);rw[hS.w.ib.ns];exact xA.mpr ⟨b,h9,rfl⟩
    obtain⟨v,hv⟩:=eP hbk;obtain⟨j,hj⟩:=hS.w.vb _ (bN hv);obtain rfl:v=.int j:=hj;have hS3:=hS.same (s2.trans s3);obtain⟨dx,h1⟩:=hS3.h.me;unfold ND;rfl';refine⟨dx,_,h1,wF ∅,z,l,f',g,tks,bk,b,rfl,hS3.h,.inl ⟨.int j,hv,.int j,.inl ⟨bk,Sum.inl b,.inl hS3.w.b,rfl,hv.symm⟩,_,_,.leaf (.int j),rfl,by unfold yE;exact⟨rfl,rfl⟩,by unfold yE;exact⟨rfl,rfl⟩,by unfold FD;omega,λH6 s6=>⟨true,rfl,VG rfl (s3.trans s6)⟩⟩⟩
   ·rintro⟨v5,rfl,s3⟩;exact⟨_,rfl,s2.trans s3⟩
  rintro⟨v5,rfl,s2⟩;subst hU9 hD9;refine RC (λσ G=>True/\∃v5 v6 v7 v8 v9 v10 v11,σ=[some (.ref z.p),some (.ref td),some (.ref bd),some (.int pg),some (.int c),v5,v6,v7,v8,v9,v10,v11]) ?_ λU9 D9 hU9 hD9 σ3 H3=>?_
  ·rfl';refine⟨ls.map ltK,.inl (s2 _ _ hS.w.t),ls.map Lt.n,GW,λl1 ms hl1 hp hw=>?_⟩;have s3:=s2.trans (dD (o:=.lst (ms.map V.int)) (LC (H:=H2)) hl1);have g3:yC H2 l1 (.lst (ms.map V.int)) l1=some (.lst (ms.map V.int)):=SC;generalize yC H2 l1 _=H3 at *;refine⟨⟨_,aD.of g3⟩,VI (K:=K) (xs:=ms.map V.int) (λi σ G=>∃v6 v7 v8 v9 v10 v11,σ=[some (.ref z.p),some (.ref td),some (.ref bd),some (.int pg),some (.int c),v5,v6,v7,v8,v9,v10,v11]/\vC H3 G) ⟨_,_,_,_,_,_,rfl,LC⟩ (λi σ G _ ⟨_,_,_,_,_,_,_,e⟩=>aD.of (e _ _ g3)) (λi v σ G hi=>?_) (λσ G=>?_)⟩;rotate_left
   ·rintro⟨v6,v7,v8,v9,v10,v11,rfl,s4⟩;exact⟨_,_,_,_,_,_,_,rfl⟩
   rintro⟨v6,v7,v8,v9,v10,v11,rfl,s4⟩;rw[UA] at hi;obtain⟨n,hn,rfl⟩:=HA.mp hi;obtain⟨l2,hl2,rfl⟩:=xA.mp (hp.mem_iff.mp (fB hn));obtain⟨t2,ht2,hs1,hs2,hs3⟩:=hS.y.at2 hl2;have hS4:=hS.same (s3.trans s4);have hval:=YS hS.w.nn hl2;have hP4:=hS4.w.m l2 hl2;rfl';simp only[ND];rfl';refine⟨_,.inl ⟨_,Sum.inl l2.n,.inl hS4.w.t,rfl,hval.symm⟩,?_⟩;refine RC (λσ G'=>∃v8 v9,σ=[some (.ref z.p),some (.ref td),some (.ref bd),some (.int pg),some (.int c),v5,some (.int l2.n),some (.ref l2.d),v8,v9,v10,v11]/\vC G G') ?_ λU9 D9 hU9 hD9 σ5 H5=>?_
   ·rfl';refine QM (λk σ G'=>∃v8 v9,σ=[some (.ref z.p),some (.ref td),some (.ref bd),some (.int pg),some (.int c),v5,some (.int l2.n),some (.ref l2.d),v8,v9,v10,v11]/\vC G G') ⟨_,_,rfl,LC⟩ (λk σ G' hk=>?_) (λσ G'=>?_);rotate_left
    ·rintro⟨v8',v9',rfl,s6⟩;exact⟨_,_,rfl,s6⟩
    rintro⟨v8',v9',rfl,s6⟩;have hS6:=hS4.same s6;obtain⟨dx,h1⟩:=hS6.h.me;obtain⟨a7,_,o7,l7⟩:=hS6.h.st _ ht2;rfl';refine⟨dx,_,h1,wF ∅,z,l,f',g,tks,bk,l2.n,rfl,hS6.h,.inr ⟨t2,ht2,hs1,λb us hb hru=>?_⟩⟩;have sb:=dD (o:=.lst us) (LC (H:=G')) hb;have gb:yC G' b (.lst us) b=some (.lst us):=SC;generalize yC G' b (.lst us)=H1 at *;refine RC (λσ G2=>σ=[some (.ref z.p),some (.ref td),some (.ref bd),some (.int pg),some (.int c),v5,some (.int l2.n),some (.ref l2.d),some (.int (0+(k:Int))),some (.ref b),v10,v11]/\vC H1 G2) ?_ λU9 D9 hU9 hD9 σ7 H7=>?_
    ·rfl';have hP1:=(hS6.same sb).w.m l2 hl2;refine⟨l2.d,N,l2.kv,t2.rs,rfl,by rw[show pm t2.rs=l2.F from funext hs2];exact hP1,hN,o7,hs3,λl3 us3 H3 s3 h3n h3 hr3=>?_⟩;refine⟨_,_,.seq false (t2.rs.map xF),rfl,(cT gb hru l7).same s3,cT h3 hr3 l7,ke,λH8 s8=>⟨true,rfl,VG rfl (s3.trans s8)⟩⟩
    rintro⟨rfl,s7⟩;subst hU9 hD9;rfl';exact⟨.inl ⟨rfl,_,aD.of (s7 _ _ gb)⟩,b,us,rfl,rfl,s7 _ _ gb,pG (s6.trans (sb.trans s7)) (YV s6 hb)⟩
   rintro⟨v8,v9,rfl,s5⟩;subst hU9 hD9;have hP5:=hP4.same s5;have hn5:=hP5.n;obtain⟨ns5,e5,nd5⟩:=hP5.k;have hnb:=hS.w.nb l2 hl2;rfl';refine⟨l2.kv,.inl hP5.d,ns5,e5,λl6 ms6 hl6 p6 w6 p7 hp7=>?_⟩;have hml6:ms6.length<=N:=by
    have:=congrArg List.length e5;rw[dA,dA] at this;rw[p6.length_eq];omega
   have s6:=dD (o:=.lst (ms6.map V.int)) (LC (H:=H5)) hl6;have s7:=dD (o:=.lst [V.int 0]) (LC (H:=yC H5 l6 (.lst (ms6.map V.int)))) hp7;have g6:=s7 _ _ (SC (H:=H5) (a:=l6) (o:=.lst (ms6.map V.int)));have s57:=s5.trans (s6.trans s7);generalize yC (yC H5 l6 _) p7 _=H7 at *;refine⟨_,g6,_,rfl,by rw[dA];show ms6.length+1<=_;omega,λp8 hp8=>?_⟩;have s8:=s57.trans (dD (o:=.lst (ms6.map V.int++[V.int 0])) (LC (H:=H7)) hp8);have g8:yC H7 p8 (.lst (ms6.map V.int++[V.int 0])) p8=some (.lst (ms6.map V.int++[V.int 0])):=SC;generalize yC H7 p8 _=H8 at *;refine⟨_,aD.of g8,λp9 hp9=>?_⟩;rw[show DE (ms6.map V.int++[V.int 0]) none (some 3)=((ms6++[0]).take 3).map V.int by rw[show DE (ms6.map V.int++[V.int 0]) none (some 3)=(ms6.map V.int++[V.int 0]).take 3 from Xa (hi:=3),List.map_take,KA];rfl];have ht3:((ms6++[0]).take 3).length<=3:=by rw[NA];omega
   generalize (ms6++[0]).take 3=m3 at *;have s9:=s8.trans (dD (o:=.lst (m3.map V.int)) (LC (H:=H8)) hp9);have g9:yC H8 p9 (.lst (m3.map V.int)) p9=some (.lst (m3.map V.int)):=SC;generalize yC H8 p9 _=H9 at *;refine⟨c,l2.n,pg,rfl,hnb.1,⋯,hpg,λy H10 s10 ο ο p11 hp11=>?_⟩;have s11:=(s9.trans s10).trans (dD (o:=.lst [V.int y]) (LC (H:=H10)) hp11);have g11:=(s10.trans (dD (o:=.lst [V.int y]) (LC (H:=H10)) hp11)) _ _ g9;generalize yC H10 p11 _=H11 at *;refine⟨_,g11,_,rfl,by rw[dA];show m3.length+1<=_;omega,λp12 hp12=>?_⟩;rw[show m3.map V.int++[V.int y]=(m3++[y]).map V.int by rw[KA];rfl];generalize m3++[y]=pgs9 at *;have s12:=s11.trans (dD (o:=.lst (pgs9.map V.int)) (LC (H:=H11)) hp12);have g12:yC H11 p12 (.lst (pgs9.map V.int)) p12=some (.lst (pgs9.map V.int)):=SC;generalize yC H11 p12 _=H12 at *;clear g11 g9 g8 g6 s11 s10 s9 s8 s57 s7 s6;refine⟨⟨_,aD.of g12⟩,VI (K:=K) (xs:=pgs9.map V.int) (λi σ G'=>∃v10 v11,σ=[some (.ref z.p),some (.ref td),some (.ref bd),some (.int pg),some (.int c),v5,some (.int l2.n),some (.ref l2.d),v8,v9,v10,v11]/\vC H12 G') ⟨_,_,rfl,LC⟩ (λi σ G' _ ⟨_,_,_,e⟩=>aD.of (e _ _ g12)) (λi v σ G' hi=>?_) (λσ G'=>?_)⟩;rotate_left
   ·rintro⟨v10,v11,rfl,s13⟩;exact⟨_,_,_,_,_,_,rfl,s4.trans (s12.trans s13)⟩
   rintro⟨v10,v11,rfl,s13⟩;rw[UA] at hi;obtain⟨x,hx,rfl⟩:=HA.mp hi;have hP13:=hP4.same (s12.trans s13);rfl';intro p14 hp14;have s14:=s13.trans (dD (o:=.tup [V.non,V.non]) (LC (H:=G')) hp14);have g14:yC G' p14 (.tup [V.non,V.non]) p14=some (.tup [V.non,V.non]):=SC;generalize yC G' p14 _=H14 at *;have hP14:=hP4.same (s12.trans s14);refine RC (λσ G2=>∃o tv,σ=[some (.ref z.p),some (.ref td),some (.ref bd),some (.int pg),some (.int c),v5,some (.int l2.n),some (.ref l2.d),v8,v9,some (.int x),some (.ref o)]/\vC H14 G2/\G2 o=some (.tup [oR (pm t2.rs x),tv])/\vD G2 tv ((pm t2.rs x).bind (·.2))) ?_ λU9 D9 hU9 hD9 σ15 H15=>?_
   ·rfl';simp only[jH,ND];rfl';refine⟨JC l2.kv (Sum.inl x),.inl ⟨l2.kv,Sum.inl x,.inl hP14.d,rfl,rfl⟩,?_⟩;obtain⟨v,g9,v1,v2,a9,tv,rfl,ha9,ht9⟩|⟨v1,v2⟩:=hP14.v x
    ·rw[v1,hs2,v2];exact qD ⟨_,.inl ⟨l2.kv,Sum.inl x,.inl hP14.d,rfl,v1.symm⟩,a9,rfl,LC,tv,ha9,ht9⟩
    ·rw[v1,hs2,v2];exact CC ⟨LC,.non,g14,rfl⟩
   rintro⟨o,tv,rfl,s15,ho15,htv15⟩;subst hU9 hD9;have hS15:=hS4.same ((s12.trans s14).trans s15);obtain⟨dx,h1⟩:=hS15.h.me;rfl';refine⟨dx,_,h1,wF ∅,z,l,f',g,tks,bk,l2.n,x,rfl,hS15.h,.inr ⟨t2,ht2,hs1,λH16 s16=>⟨dx,_,s16 _ _ h1,wF ∅,z,l,f',g,tks,bk,l2.n,x,rfl,(hS15.same s16).h,.inr ⟨t2,ht2,hs1,λv17 H17 s17 hv17 p18 hp18=>?_⟩⟩⟩⟩;have s18:=dD (o:=.tup [oR (pm t2.rs x),v17]) (LC (H:=H17)) hp18;have s168:=(s16.trans s17).trans s18;exact⟨_,_,.seq true [.leaf (oR (pm t2.rs x)),WF ((pm t2.rs x).bind (·.2))],rfl,zP SC je (IW (hv17.same s18)),zP (s168 _ _ ho15) je (IW (htv15.same s168)),dn,λH19 s19=>⟨true,rfl,VG rfl (((s14.trans s15).trans s168).trans s19)⟩⟩
  rintro⟨_,v5,v6,v7,v8,v9,v10,v11,rfl⟩;subst hU9 hD9;rfl';exact q _
noncomputable def Kl (H H':Hp):Prop:=∀c o,H c=some o->(∀kvs,o≠.dK kvs)->(∀C d fs,o≠.ins C d fs)->H' c=some o
section
variable {A:QD} {H H' H2:Hp} {z:Hz} {l f g:Int} {N N':Nat} {tks:List Tk} {bk bk' bk0:Kvs} {td bd:Addr} {ls ls':List Lt} {an:An} {pg:Int} {dd:Dd}
theorem Kl.of (s:vC H H'):Kl H H':=λc o h ο ο=>s c o h
theorem Kl.trans (a:Kl H H') (b:Kl H' H2):Kl H H2:=λc o h h1 h2=>b c o (a c o h h1 h2) h1 h2
theorem Kl.lst (k:Kl H H') {c:Addr} {us:List V} (h:H c=some (.lst us)):H' c=some (.lst us):=k c _ h (λο z=>nomatch z) (λο ο ο z=>nomatch z)
theorem Kl.tup (k:Kl H H') {c:Addr} {us:List V} (h:H c=some (.tup us)):H' c=some (.tup us):=k c _ h (λο z=>nomatch z) (λο ο ο z=>nomatch z)
theorem BP {a:Addr} {xs:List V} (h:aD K H a xs) (k:Kl H H'):aD K H' a xs:=h.imp (λr=>r.imp (λe=>k.lst e) (λ⟨o,e⟩=>⟨o,k a _ e (λο z=>nomatch z) (λο ο ο z=>nomatch z)⟩)) id
theorem MD.dk (h:MD H N td bd ls bk):∀c∈td::bd::ls.map Lt.d,∃kvs,H c=some (.dK kvs):=λc hc=>by
 rcases wA.mp hc with rfl|hc
 ·exact⟨_,h.t⟩
 ·rcases wA.mp hc with rfl|hc
  ·exact⟨_,h.b⟩
  ·obtain⟨l,hl,rfl⟩:=xA.mp hc;exact⟨_,(h.m l hl).d⟩
theorem Kw.kl {D:List Addr} (k:Kw D H H') (hD:∀c∈D,∃kvs,H c=some (.dK kvs)):Kl H H':=λc o h h1 ο=>k c o h λhc=>by
 obtain⟨kvs,e⟩:=hD c hc;rw[h] at e;exact h1 kvs (FA e)
theorem xD.hp (h:xD A H z l f g tks bk) {t:Tk} (ht:t∈tks):∃dx fs,H t.p=some (.ins A.Aa dx fs):=by
 obtain⟨a,⟨dx,vs,h1,_⟩,_⟩:=h.st t ht;exact⟨dx,_,h1⟩
theorem Hf.kl (k:Hf z tks H H') (h:xD A H z l f g tks bk):Kl H H':=λc o hc h1 h2=>k c o hc (λe=>by rw[e,h.t] at hc;exact h1 _ (FA hc).symm) (λe=>by rw[e,h.b] at hc;exact h1 _ (FA hc).symm) λt ht e=>by
 obtain⟨dx,fs,e2⟩:=h.hp ht;rw[e,e2] at hc;exact h2 _ _ _ (FA hc).symm
theorem xD.kw {D:List Addr} (h:xD A H z l f g tks bk) (k:Kw D H H') (hD:∀c∈D,∃kvs,H c=some (.dK kvs)) (n1:z.td∉D) (n2:z.bd∉D):xD A H' z l f g tks bk:=by
 obtain⟨dx,e⟩:=h.me;obtain⟨dxs,es⟩:=id h.sh;have kp:∀c o,H c=some o->(∀kvs,o≠.dK kvs)->H' c=some o:=λc o hc h1=>k c o hc λhm=>by
  obtain⟨kvs,e⟩:=hD c hm;rw[hc] at e;exact h1 kvs (FA e)
 have tp:Tp H H':=λc xs hc=>kp c _ hc λο z=>nomatch z;refine⟨⟨dx,kp _ _ e (λο z=>nomatch z)⟩,⟨dxs,kp _ _ es λο z=>nomatch z⟩,k _ _ h.t n1,k _ _ h.b n2,λt ht=>?_,h.nd,h.nk,h.vb,h.ne,h.np⟩;obtain⟨a,⟨dx1,vs,h1,h2,h3⟩,h4⟩:=h.st t ht;exact⟨a,⟨dx1,vs,kp _ _ h1 (λο z=>nomatch z),kp _ _ h2 (λο z=>nomatch z),Paired.mapP h3 λ_ _ ⟨a,tv,e,h1,h2⟩=>⟨a,tv,e,tp _ _ h1,h2.tp tp⟩⟩,h4⟩
theorem MD.hf (w:MD H N td bd ls bk) (h:xD A H z l f g tks bk0) (k:Hf z tks H H') (a1:z.td∉td::bd::ls.map Lt.d) (a2:z.bd∉td::bd::ls.map Lt.d):MD H' N td bd ls bk:=by
 have kl:=k.kl h;have dk:∀c kvs,c∈td::bd::ls.map Lt.d->H c=some (.dK kvs)->H' c=some (.dK kvs):=λc kvs hm hc=>k c _ hc (λe=>a1 (by rw[<-e];exact hm)) (λe=>a2 (by rw[<-e];exact hm)) λt ht e=>by
  obtain⟨dx,fs,e2⟩:=h.hp ht;rw[e,e2] at hc;cases hc
 exact⟨dk _ _ cA w.t,dk _ _ (fA _ cA) w.b,λx hx=>(w.m x hx).tp (λc xs hc=>kl.tup hc) (dk _ _ (fA _ (fA _ (xA.mpr ⟨x,hx,rfl⟩))) (w.m x hx).d),w.nd,w.nn,w.ib,w.vb,w.sl,w.sb,w.nb⟩
theorem ue (h:MD H N td bd ls bk) (fr:vP H ls ls') {c:Addr} {o:HO} (hc:H c=some o) (n:c∉td::bd::ls.map Lt.d):c∉td::bd::ls'.map Lt.d:=λhm=>by
 rcases wA.mp hm with rfl|hm
 ·exact n cA
 ·rcases wA.mp hm with rfl|hm
  ·exact n (fA _ cA)
  ·obtain⟨l,hl,rfl⟩:=xA.mp hm;rcases fr l hl with h9|h9
   ·exact n (fA _ (fA _ h9))
   ·rw[hc] at h9;cases h9
theorem kn (h:zG pg ls bk dd an ls' bk'):ls'.length<=ls.length+1/\bk'.length<=bk.length+1:=by
 have hset:∀{n:Int} {kv:Kvs} {F:Int->Option Og},(UE n kv F ls).length=ls.length:=λ{n kv F}=>by unfold UE;rw[dA]
 have hdk:=HR bk;cases dd with
 |new=>obtain⟨rfl,_,_,_,_,rfl⟩:=h;rw[qA];exact⟨iA _,⋯⟩
 |bank n=>
  obtain⟨rfl,⟨_,_,rfl⟩|⟨_,_,_,_,rfl⟩⟩:=h
  ·omega
  ·rw[qA];exact⟨⋯,iA _⟩
 |drop n=>
  obtain⟨rfl,⟨_,_,rfl⟩|⟨_,_,_,rfl⟩|⟨_,_,_,rfl⟩⟩:=h
  ·omega
  ·omega
  ·have:=hdk (Sum.inl n:Key);omega
 |fork n=>
  obtain⟨rfl,⟨_,_,rfl⟩|⟨_,_,_,_,_,_,_,rfl⟩⟩:=h
  ·omega
  ·rw[qA];exact⟨iA _,⋯⟩
 |fin n=>
  obtain⟨rfl,⟨_,_,rfl⟩|⟨_,_,_,_,rfl⟩⟩:=h
  ·omega
  ·have:=BB (λl:Lt=>decide (l.n≠n)) ls;omega
 |_=>
  obtain⟨rfl,⟨_,_,rfl⟩|⟨_,_,_,_,_,rfl⟩⟩:=h
  ·omega
  ·rw[hset];omega
noncomputable def CP:An->Dv
 |.no w=>.seq true [.leaf (.str "no"),.leaf (.str w)]
 |.ok v=>.seq true [.leaf (.str "ok"),.leaf v]
theorem sM {F:Int->Option Og} {v:V} (h:(NE pg F bk dd).1=.ok v):v=.non:=by
 have bad:∀{w:Str} {x:Int->Option Og},((An.no w,x):An×(Int->Option Og)).1≠.ok v:=λz=>nomatch z;have RF:∀{x:Int->Option Og},((An.ok .non,x):An×(Int->Option Og)).1=.ok v->v=.non:=λz=>(An.ok.inj z).symm;cases dd with
 |lift n x m=>
  have e:NE pg F bk (.lift n x m)=if LD pg x m then (.no "OutOfRoom",F) else if (gD F x m.toNat:Int) < m then (.no "NotMapped",F) else (.ok .non,BD F (λο=>none) x m.toNat):=rfl
  rw[e] at h
  split at h
  ·exact absurd h bad
  ·split at h
   ·exact absurd h bad
   ·exact RF h
 |guard n x m r=>
  have e:NE pg F bk (.guard n x m r)=if LD pg x m then (.no "OutOfRoom",F) else if r < 0\/r > 3 then (.no "BadRights",F) else if (gD F x m.toNat:Int) < m then (.no "NotMapped",F) else (.ok .non,BD F (gG F r) x m.toNat):=rfl
  rw[e] at h
  split at h
  ·exact absurd h bad
  ·split at h
   ·exact absurd h bad
   ·split at h
    ·exact absurd h bad
    ·exact RF h
 |lay n x m r b st=>
  have e:NE pg F bk (.lay n x m r b st)=if LD pg x m then (.no "OutOfRoom",F) else if r < 0\/r > 3 then (.no "BadRights",F) else match nF bk b st m with
   |some w=>(.no w,F)
   |none=>if 0 < gD F x m.toNat then (.no "Taken",F) else (.ok .non,BD F (gL x r b st) x m.toNat):=rfl
  rw[e] at h
  split at h
  ·exact absurd h bad
  ·split at h
   ·exact absurd h bad
   ·cases hb:nF bk b st m with
    |some w=>rw[hb] at h;exact absurd h bad
    |none=>
     rw[hb] at h;have h:(if 0 < gD F x m.toNat then ((.no "Taken",F):An×(Int->Option Og)) else (.ok .non,BD F (gL x r b st) x m.toNat)).1=.ok v:=h
     split at h
     ·exact absurd h bad
     ·exact RF h
 |_=>exact (An.ok.inj h).symm
theorem tM {v:V} (h:zG pg ls bk dd (.ok v) ls' bk'):v=.non\/∃k:Int,v=.int k:=by
 cases dd with
 |new=>obtain⟨_,k,_,_,e,_⟩:=h;exact .inr ⟨_,An.ok.inj e⟩
 |bank n=>
  obtain⟨_,⟨_,e,_⟩|⟨_,k,_,e,_⟩⟩:=h
  ·cases e
  ·exact .inr ⟨_,An.ok.inj e⟩
 |drop n=>
  obtain⟨_,⟨_,e,_⟩|⟨_,_,e,_⟩|⟨_,_,e,_⟩⟩:=h
  ·cases e
  ·cases e
  ·exact .inl (An.ok.inj e)
 |fork n=>
  obtain⟨_,⟨_,e,_⟩|⟨_,_,_,k,_,_,e,_⟩⟩:=h
  ·cases e
  ·exact .inr ⟨_,An.ok.inj e⟩
 |fin n=>
  obtain⟨_,⟨_,e,_⟩|⟨_,_,_,e,_⟩⟩:=h
  ·cases e
  ·exact .inl (An.ok.inj e)
 |_=>
  obtain⟨_,⟨_,e,_⟩|⟨_,_,_,e,_⟩⟩:=h
  ·cases e
  ·exact .inl (sM e.symm)
theorem ve {b:Addr} (h:wH H b an) (hv:∀v,an=.ok v->v=.non\/∃k:Int,v=.int k):yE H (CP an) (.ref b):=by
 cases an with
 |no w=>exact zP h (by unfold yE;exact⟨rfl,rfl⟩) (by unfold yE;exact⟨rfl,rfl⟩)
 |ok v=>
  rcases hv v rfl with rfl|⟨k,rfl⟩
  ·exact zP h (by unfold yE;exact⟨rfl,rfl⟩) (by unfold yE;exact⟨rfl,rfl⟩)
  ·exact zP h (by unfold yE;exact⟨rfl,rfl⟩) (by unfold yE;exact⟨rfl,rfl⟩)
theorem DP:FD (CP an)<=5:=by
 cases an with
 |no w=>unfold CP;rw[FD,QC,QC,QC,FD,FD];decide
 |ok v=>unfold CP;rw[FD,QC,QC,QC,FD,FD];decide
end
noncomputable def qK (K:W.Frag):Sp:=λvs H Q ο=>∃(a:Addr) (ns:List Int),vs=[.ref a]/\aD K H a (ns.map V.int)/\ns.length<=63/\∀H',Q (.bl true) H'
structure rK (K:W.Frag) (A:QD) (z:Hz) (l fn g:Int) (td bd a sx:Addr) (ns zc:List Int) (i:Nat) (tks:List Tk) (bk:Kvs) (ls:List Lt) (G:Hp):Prop where
 s:pK A G z l fn g (128 * i) tks bk td bd ls
 n1:ls.length<=i
 n2:bk.length<=i
 sq:aD K G a (ns.map V.int)
 sx:G sx=some (.lst (zc.map V.int))
theorem rK.same {K:W.Frag} {A:QD} {z:Hz} {l fn g:Int} {td bd a sx:Addr} {ns zc:List Int} {i:Nat} {tks:List Tk} {bk:Kvs} {ls:List Lt} {G G':Hp} (h:rK K A z l fn g td bd a sx ns zc i tks bk ls G) (e:vC G G'):rK K A z l fn g td bd a sx ns zc i tks bk ls G':=⟨h.s.same e,h.n1,h.n2,BP h.sq (Kl.of e),e _ _ h.sx⟩
theorem mn (T:AD K mg A):EF P w K mg base "law" xS ["_law_script","_law_fan","_law_levels","_law_pages","_law_house","_law_tasks","_law_banks","_law_cell","_law_deed_here","_law_due_here","_law_task","_law_stranger"] 14 (qK K):=by
 have Nd:=@BL P w K mg base A T;have Nf:=@fm P w K mg base A T;have N9:=@il P w K mg base A T;have Qy:=@dM P w K mg base A T;have Ru:=@wP P w K mg base A T;have Oq:=@yP P w K mg base A T;have Bd:=@yc P w K mg base A T 6;have Au:=@SS P w K mg base A T;have Bm:=@CW P w K mg base A T;have Bw:=@sP P w K mg base A T;have Oa:=@qM P w K mg base A T;have Ng:=@rM P w K mg base A T;have A0:=@bM P w K mg base A T;intro f cdv A' outer s H vs Q E hr z;obtain⟨a,ns,rfl,hs,hns,qq⟩:=z;have A4:=@DL P w K mg base A T a ns;refine⟨_,(NC (sD (i:=1) tH.nd rfl (Or.inl rfl) (ZC YE sC (ZC qF (lD A4 (hr.mono (by decide)) KC (pC (nC 0) (pC sC uC))) sC)))
   (OD (eD (tD pE (ZC qF (ZC JH (lD A4 (hr.mono (by decide)) KC (pC (nC 0) (pC sC uC))) sC) sC) sC (rC _)) (EC (sD (i:=1) tH.nd rfl (Or.inl rfl) (ZC YE sC (ZC qF (ZC JH (lD A4 (hr.mono (by decide)) KC (pC (nC 0) (pC sC uC))) sC) sC)))) fD)
   (NC (sD (i:=2) tH.nd rfl (Or.inl rfl) (ZC YE sC (ZC qF (lD A4 (hr.mono (by decide)) KC (pC (nC 0) (pC sC uC))) sC)))
   (NC (sD (i:=3) tH.nd rfl (Or.inl rfl) (lD N9 (hr.mono (by decide)) KC (pC (ZC JI (nC 2) (nC 1)) uC)))
   (OD (sD (i:=4) tH.nd rfl (Or.inl rfl) (X5 Nf (hr.mono (by decide)) KC (pC (X5 Nd (hr.mono (by decide)) KC (pC (nC 2) (pC (nC 1) (pC (ZC qF (ZC JH (lD A4 (hr.mono (by decide)) KC (pC (nC 0) (pC sC uC))) sC) sC) uC)))) uC)))
   (NC (sD (i:=5) tH.nd rfl (Or.inl rfl) KM)
   (NC (sD (i:=6) tH.nd rfl (Or.inl rfl) KM)
   (OD (DG WA rfl (AG (EM FM (nC 0) (LI sC) (LI sC))) (pF (i:=7) tH.nd rfl (Or.inl rfl)) (OD (sD (i:=8) tH.nd rfl (Or.inl rfl) (lD Qy (hr.mono (by decide)) KC (pC (nC 5) (pC (nC 6) (pC (nC 3) (pC (nC 7) uC))))))
   (OD (sD (i:=9) tH.nd rfl (Or.inl rfl) (lD Ru (hr.mono (by decide)) KC (pC (nC 5) (pC (nC 6) (pC (nC 3) (pC (nC 8) uC))))))
   (OD (eD (ZF (xE (lD Bd (hr.mono (by decide)) KC (pC (lD Oq (hr.mono (by decide)) KC (pC (nC 4) (pC (nC 8) uC))) (pC (nC 9) uC))))) (EC (YC oG)) fD)
   (EC (eD (PW.pt (GH (tD fH (SD wI rfl T.Ba PySem.boot_len (pC (nC 5) uC)) sC (rC _)) (oI (tD UF (ZC qF (nC 7) sC) sC (rC _))))) (NC (sD (i:=10) tH.nd rfl (Or.inl rfl) (MC uI (SD (cI rfl) rfl T.Bb gB (pC (nC 5) uC)) (lD Au (hr.mono (by decide)) KC (pC (nC 7) (pC sC (pC (SD wI rfl T.Ba PySem.boot_len (pC (nC 5) uC)) uC)))) (λο ο=>rfl)))
   (EC (eD (ZF (xE (lD Bd (hr.mono (by decide)) KC (pC (TD (nC 4) T.Ah A0 (hr.mono (by decide)) KC (pC (nC 10) uC)) (pC (lD Bw (hr.mono (by decide)) KC (pC (hG (vE hr) (nC 5) (nC 10) (λο ο=>rfl)) uC)) uC))))) (EC (YC oG)) fD))) fD))))))
   (OD (sD (i:=11) tH.nd rfl (Or.inl rfl) (MC JR (zH (pC (lD Bm (hr.mono (by decide)) KC (pC (nC 5) uC)) (pC (ZC YG (DM MM sC) (ZC qF (lD A4 (hr.mono (by decide)) KC (pC (nC 0) (pC sC uC))) (ZC HK sC sC))) uC))) (ZC qF (lD A4 (hr.mono (by decide)) KC (pC (nC 0) (pC sC uC))) sC) (λο ο=>rfl)))
   (OD (eD (ZF (xE (lD Oa (hr.mono (by decide)) KC (pC (nC 4) (pC (nC 11) (pC (ZC qF (lD A4 (hr.mono (by decide)) KC (pC (nC 0) (pC sC uC))) (nC 3)) uC)))))) (EC (YC oG)) fD)
   (EC (YC (lD Ng (hr.mono (by decide)) KC (@pC _ _ _ _ _ (nC 4) (@pC _ _ _ _ _ (nC 5) (@pC _ _ _ _ _ (nC 6) (@pC _ _ _ _ _ (nC 3) (@pC _ _ _ _ _ (lD A4 (hr.mono (by decide)) KC (pC (nC 0) (pC sC uC))) uC rfl) rfl) rfl) rfl) rfl)))))))))))))),?_⟩
 rfl';refine⟨0,rfl,hs,⋯,_,rfl,?_⟩;refine RC (λσ G=>∃fn:Int,σ=[some (.ref a),some (.int fn),none,none,none,none,none,none,none,none,none,none]/\G=H/\1<=fn/\fn<=8) ?_ λU9 D9 hU9 hD9 σ0 G0=>?_
 ·rfl';refine⟨0,rfl,hs,⋯,_,rfl,?_⟩;generalize ns.getD (Int.toNat 0) 0=y0;refine VC (λο=>⟨0,rfl,hs,⋯,_,rfl,rfl,⋯,⋯⟩) (λο=>⟨rfl,⋯,⋯⟩)
 rintro⟨fn,rfl,rfl,hf1,hf8⟩;subst hU9 hD9;rfl';refine⟨1,rfl,hs,⋯,_,rfl,?_⟩;have hl2:2<=2+ns.getD (Int.toNat 1) 0 % 2/\2+ns.getD (Int.toNat 1) 0 % 2<=3:=⋯;generalize 2+ns.getD (Int.toNat 1) 0 % 2=l at *;have hm:0<=l * fn/\l * fn<=62:=by
  rcases (show l=2\/l=3 by omega) with rfl|rfl<;>omega
 refine⟨.inl ⋯,l * fn,rfl,hm.1,hm.2,?_⟩;have hpg0:=KR (l * fn);obtain⟨pg,hpg⟩:∃pg,pw (l * fn)=pg:=⟨_,rfl⟩
 rw[hpg] at hpg0 ⊢;refine RC (λσ H'=>∃(z:Hz) (g:Int),σ=[some (.ref a),some (.int fn),some (.int l),some (.int pg),some (.ref z.p),none,none,none,none,none,none,none]/\vC G0 H'/\xD A H' z l fn g [] []) ?_ λU9 D9 hU9 hD9 σ1 H1=>?_
 ·unfold zb fI;rfl';refine⟨1,rfl,hs,⋯,_,rfl,?_⟩;have hg5:0<=ns.getD (Int.toNat 1) 0 / 2 % 5/\ns.getD (Int.toNat 1) 0 / 2 % 5<=4:=⋯;generalize ns.getD (Int.toNat 1) 0 / 2 % 5=g at *;refine λx dx hx hdx hne=>?_;rw[bA (ll ⋯)];intro x1 dx1 hx1 hdx1 hne1 td bd H1 htd hbd hn1 k1 a1 a2 a3;have nxx1:x1≠x:=λz=>by rw[z,SC] at hx1;cases hx1
  have nxd1:dx1≠x:=λz=>by rw[z,SC] at hdx1;cases hdx1
  have b1:vC G0 (yC (yC G0 dx (.own x)) x (.ins A.Ap dx (dJ l fn g))):=λc o h=>by rw[WC (AE h hx),WC (AE h hdx)];exact h
  have e1:yC (yC G0 dx (.own x)) x (.ins A.Ap dx (dJ l fn g)) x=some (.ins A.Ap dx (dJ l fn g)):=SC;generalize yC (yC G0 dx (.own x)) x (.ins A.Ap dx (dJ l fn g))=G1 at *;have b2:vC G1 (yC (yC G1 dx1 (.own x1)) x1 (.ins A.Af dx1 [])):=λc o h=>by rw[WC (AE h hx1),WC (AE h hdx1)];exact h
  have e2:=b2 _ _ e1;generalize yC (yC G1 dx1 (.own x1)) x1 (.ins A.Af dx1 [])=G2 at *;have b12:=b1.trans b2;exact⟨⟨x1,x,td,bd⟩,rfl,λc o h=>k1 c o (b12 _ _ h) (AE (b1 _ _ h) hx1),g,⟨⟨dx1,a1⟩,⟨dx,k1 _ _ e2 nxx1.symm⟩,a2,a3,λt ht=>by simp at ht,.nil,.nil,λkv hkv=>by simp at hkv,hn1,λt ht=>by simp at ht⟩⟩
 rintro⟨z,g,rfl,s1,hS⟩;subst hU9 hD9;rfl';intro td htd bd hbd;have hI0:pK A (yC (yC H1 td (.dK [])) bd (.dK [])) z l fn g 0 [] [] td bd []/\vC H1 (yC (yC H1 td (.dK [])) bd (.dK [])):=by
  have s2:=dD (o:=.dK []) (LC (H:=H1)) htd;have s3:=dD (o:=.dK []) (LC (H:=yC H1 td (.dK []))) hbd;have ne1:td≠bd:=λe=>by rw[<-e,SC] at hbd;cases hbd
  have nn:∀c o,H1 c=some o->c∉td::bd::([]:List Lt).map Lt.d:=λc o hc hm=>by
   rcases wA.mp hm with rfl|hm
   ·rw[hc] at htd;cases htd
   ·rcases wA.mp hm with rfl|hm
    ·rw[s2 _ _ hc] at hbd;cases hbd
    ·cases hm
  exact⟨⟨hS.same (s2.trans s3),⟨s3 _ _ SC,SC,λl hl=>(AB hl).elim,qB.mpr ⟨λh9=>ne1 (gA.mp h9),qB.mpr ⟨AB,List.nodup_nil⟩⟩,List.nodup_nil,λk hk=>(AB hk).elim,λk hk=>(AB hk).elim,iA _,iA _,λl hl=>(AB hl).elim⟩,.nil,nn _ _ hS.t,nn _ _ hS.b⟩,s2.trans s3⟩
 obtain⟨hI0,s23⟩:=hI0;have hs2:=BP hs (Kl.of (s1.trans s23));generalize yC (yC H1 td (.dK [])) bd (.dK [])=H2 at *;clear hs hS htd hbd s1 s23;refine RC (λσ G=>∃tks bk ls sx zc v7 v8 v9 v10,σ=[some (.ref a),some (.int fn),some (.int l),some (.int pg),some (.ref z.p),some (.ref td),some (.ref bd),v7,v8,v9,v10,none]/\zc.length<=61/\rK K A z l fn g td bd a sx ns zc zc.length tks bk ls G) ?_ λU9 D9 hU9 hD9 σ3 H3=>?_
 ·rfl';refine⟨_,hs2,λsx hsx=>?_⟩;have hcut:DE (ns.map V.int) (some 2) (some 72)=((ns.take 72).drop 2).map V.int:=by rw[show DE (ns.map V.int) (some 2) (some 72)=((ns.map V.int).take 72).drop 2 from oW (lo:=2) (hi:=72),<-List.map_take,<-List.map_drop]
  rw[hcut];have hcl:((ns.take 72).drop 2).length<=61:=by rw[GB,NA];omega
  generalize (ns.take 72).drop 2=zc at *;have s4:=dD (o:=.lst (zc.map V.int)) (LC (H:=H2)) hsx;have hI4:rK K A z l fn g td bd a sx ns zc 0 [] [] [] (yC H2 sx (.lst (zc.map V.int))):=⟨hI0.same s4,iA _,iA _,BP hs2 (Kl.of s4),SC⟩
  generalize yC H2 sx _=H4 at *;refine⟨⟨_,aD.of hI4.sx⟩,VI (K:=K) (xs:=zc.map V.int) (λi σ G=>∃tks bk ls v7 v8 v9 v10,σ=[some (.ref a),some (.int fn),some (.int l),some (.int pg),some (.ref z.p),some (.ref td),some (.ref bd),v7,v8,v9,v10,none]/\rK K A z l fn g td bd a sx ns zc i tks bk ls G) ⟨[],[],[],_,_,_,_,rfl,hI4⟩ (λi σ G _ ⟨_,_,_,_,_,_,_,_,e⟩=>aD.of e.sx) (λi v σ G hi=>?_) (λσ G=>?_)⟩;rotate_left
  ·rintro⟨tks,bk,ls,v7,v8,v9,v10,rfl,hI⟩;rw[dA] at hI;exact⟨tks,bk,ls,sx,zc,_,_,_,_,rfl,hcl,hI⟩
  rintro⟨tks,bk,ls,v7,v8,v9,v10,rfl,hI⟩;rw[UA] at hi;obtain⟨c,hc,rfl⟩:=HA.mp hi;have hil:=(LA.mp hc).1;have hW:=hI.s.w;have hn1:=hI.n1;have hn2:=hI.n2;have htl:tks.length=ls.length:=Paired.length hI.s.y;refine RC (λσ G'=>∃b8 dd,σ=[some (.ref a),some (.int fn),some (.int l),some (.int pg),some (.ref z.p),some (.ref td),some (.ref bd),some (.int c),some (.ref b8),v9,v10,none]/\vC G G'/\vH G' b8 dd) ?_ λU9 D9 hU9 hD9 σ5 H5=>?_
  ·rfl';refine⟨td,bd,ls.map ltK,bk,pg,c,rfl,hW.t,iM,by rw[dA];omega,λk v hv=>?_,hW.b,⟨_,hW.ib.ns⟩,⋯,hpg0,λd b H' s hd=>⟨b,rfl,s,d,hd⟩⟩;obtain⟨x,hx,ex⟩:=xA.mp (bN hv);cases ex;exact⟨x.d,x.kv,rfl,(hW.m x hx).d,(hW.m x hx).ik,by have:=(hW.m x hx).n;omega⟩
  rintro⟨b8,dd,rfl,s5,hd5⟩;subst hU9 hD9;have hI5:=hI.same s5;refine RC (λσ G'=>∃b9 an ls' bk',σ=[some (.ref a),some (.int fn),some (.int l),some (.int pg),some (.ref z.p),some (.ref td),some (.ref bd),some (.int c),some (.ref b8),some (.ref b9),v10,none]/\zG pg ls bk dd an ls' bk'/\MD G' (128 * i+128) td bd ls' bk'/\Kw (td::bd::ls.map Lt.d) H5 G'/\vP H5 ls ls'/\wH G' b9 an) ?_ λU9 D9 hU9 hD9 σ6 H6=>?_
  ·rfl';exact⟨td,bd,b8,128 * i,ls,bk,pg,dd,rfl,hI5.s.w,⋯,hd5,λan ls' bk' H' b x1 x2 x3 x4 x5=>⟨b,rfl,an,ls',bk',x1,x2,x3,x4,x5⟩⟩
  rintro⟨b9,an,ls',bk',rfl,hD,W6,k6,f6,an6⟩;subst hU9 hD9;have dk5:=hI5.s.w.dk;have hS6:=hI5.s.h.kw k6 dk5 hI5.s.a1 hI5.s.a2;have c1:=ue hI5.s.w f6 hI5.s.h.t hI5.s.a1;have c2:=ue hI5.s.w f6 hI5.s.h.b hI5.s.a2;have kl6:=k6.kl dk5;have hlen:=kn hD;refine RC (λσ G'=>∃tks',σ=[some (.ref a),some (.int fn),some (.int l),some (.int pg),some (.ref z.p),some (.ref td),some (.ref bd),some (.int c),some (.ref b8),some (.ref b9),v10,none]/\rK K A z l fn g td bd a sx ns zc (i+1) tks' bk' ls' G') ?_ λU9 D9 hU9 hD9 σ7 H7=>?_
  ·rfl';refine⟨z,l,fn,g,tks,bk,ls,ls',bk',an,b8,dd,rfl,hS6,hI.s.y,⋯,⋯,λx hx=>?_,hW.nn,kl6.tup hd5,by rw[hpg];exact hD,λtks' H' b hS' hy' hf' an'=>?_⟩
   ·obtain⟨n9,h1,h2⟩:=(W6.m x hx).ns;exact⟨n9,⋯,h2⟩
   ·have kl7:=hf'.kl hS6;have an7:wH H' b9 an:=by
     cases an with
     |no w=>exact kl7.tup an6
     |ok v=>exact kl7.tup an6
    have hv9:∀v,an=.ok v->v=.non\/∃k:Int,v=.int k:=λv e=>by rw[e] at hD;exact tM hD
    refine⟨_,_,CP an,rfl,ve an' hv9,ve an7 hv9,DP,λH8 s8=>⟨true,rfl,VG rfl ⟨tks',?_⟩⟩⟩;have W7:=W6.hf hS6 hf' c1 c2;exact rK.same ⟨⟨hS',by rw[Nat.mul_add];exact W7,hy',c1,c2⟩,⋯,⋯,BP hI5.sq (kl6.trans kl7),kl7.lst (kl6.lst hI5.sx)⟩ s8
  rintro⟨tks',rfl,hI7⟩;subst hU9 hD9;rfl';refine⟨ls'.map ltK,hI7.s.w.t,VC (λh0=>VC (λο=>?_) (λο=>⟨tks',bk',ls',hI7⟩)) (λο=>CC ⟨tks',bk',ls',hI7⟩)⟩;refine⟨ls'.map ltK,.inl hI7.s.w.t,ls'.map Lt.n,GW,λl1 ms hl1 hp hw=>?_⟩;have s8:=dD (o:=.lst (ms.map V.int)) (LC (H:=H7)) hl1;have g8:yC H7 l1 (.lst (ms.map V.int)) l1=some (.lst (ms.map V.int)):=SC;generalize yC H7 l1 _=H8 at *;have hI8:=hI7.same s8;have hml:ms.length=ls'.length:=by rw[hp.length_eq,dA]
  rw[dA] at h0;refine⟨ls'.map ltK,hI8.s.w.t,c,8,_,rfl,by decide,by decide,by rw[dA];exact h0,λy H9 s9 hy0 hy1=>⟨_,y,rfl,aD.of (s9 _ _ g8),?_⟩⟩;rw[dA] at hy1;obtain⟨y,rfl⟩:∃x:Nat,y=(x:Int):=⟨y.toNat,⋯⟩
  obtain⟨l2,hl2,en⟩:=xA.mp (hp.mem_iff.mp (List.getElem_mem (show y < ms.length by omega)));have hI9:=hI8.same s9;obtain⟨t2,ht2,hs1,hs2,hs3⟩:=hI9.s.y.at2 hl2;obtain⟨dx,h1⟩:=hI9.s.h.me;obtain⟨a7,_,o7,l7⟩:=hI9.s.h.st _ ht2;have hval:=YS hI9.s.w.nn hl2;refine⟨.int l2.n,JD (by rw[UA,zA (show y < ms.length by omega),<-en];rfl),dx,_,h1,wF ∅,z,l,fn,g,tks',bk',l2.n,rfl,hI9.s.h,.inr ⟨t2,ht2,hs1,λb us hb hru=>?_⟩⟩;have sb:=dD (o:=.lst us) (LC (H:=H9)) hb;have gb:yC H9 b (.lst us) b=some (.lst us):=SC;generalize yC H9 b (.lst us)=H10 at *;have hI10:=hI9.same sb;simp only[ND];rfl';refine⟨_,.inl ⟨_,Sum.inl l2.n,.inl hI10.s.w.t,rfl,hval.symm⟩,l2.d,_,l2.kv,t2.rs,rfl,by rw[show pm t2.rs=l2.F from funext hs2];exact hI10.s.w.m l2 hl2,⋯,o7,hs3,λl3 us3 H11 s11 h3n h3 hr3=>⟨_,_,.seq false (t2.rs.map xF),rfl,(cT gb hru l7).same s11,cT h3 hr3 l7,ke,λH12 s12=>⟨true,rfl,VG rfl ⟨tks',bk',ls',hI10.same (s11.trans s12)⟩⟩⟩⟩
 rintro⟨tks,bk,ls,sx,zc,v7,v8,v9,v10,rfl,hzc,hI⟩;subst hU9 hD9;have hn1:=hI.n1;have hn2:=hI.n2;have htl:tks.length=ls.length:=Paired.length hI.s.y;refine RC (λσ G=>∃n:Int,σ=[some (.ref a),some (.int fn),some (.int l),some (.int pg),some (.ref z.p),some (.ref td),some (.ref bd),v7,v8,v9,v10,some (.int n)]/\vC H3 G/\Sum.inl n∉cD (yD tks)) ?_ λU9 D9 hU9 hD9 σ4 H4=>?_
 ·rfl';refine⟨td,ls.map ltK,rfl,hI.s.w.t,λk hk=>⟨1,rfl,hI.sq,⋯,_,rfl,λp hp=>?_⟩⟩;generalize ns.getD (Int.toNat 1) 0=y1;have sm:=dD (o:=.lst [V.int (k:Int),V.int (-1 - y1 % 1000000000000000000000000000000)]) (LC (H:=H3)) hp;refine⟨0,rfl,BP hI.sq (Kl.of sm),⋯,_,rfl,_,by rw[SC];rfl,?_⟩;generalize ns.getD (Int.toNat 0) 0=y0;obtain⟨j,hj⟩:∃j:Nat,y0 % 2=(j:Int):=⟨(y0 % 2).toNat,⋯⟩
  rw[hj,hI.s.y.keys];obtain rfl|rfl:j=0\/j=1:=⋯
  ·exact⟨_,JD rfl,_,rfl,sm,hk.1⟩
  ·refine⟨_,JD rfl,_,rfl,sm,λhm=>?_⟩;obtain⟨x,hx,ex⟩:=jM.mp hm;have:=(hI.s.w.nb x hx).1;omega
 rintro⟨n,rfl,s4,hnn⟩;subst hU9 hD9;have hI4:=hI.same s4;refine RC (λσ G=>σ=[some (.ref a),some (.int fn),some (.int l),some (.int pg),some (.ref z.p),some (.ref td),some (.ref bd),v7,v8,v9,v10,some (.int n)]/\vC H4 G) ?_ λU9 D9 hU9 hD9 σ5 H5=>?_
 ·rfl';exact⟨1,rfl,hI4.sq,⋯,_,rfl,⋯,z,l,fn,g,tks,bk,n,_,rfl,hI4.s.h,hnn,λH' s=>⟨true,rfl,VG rfl s⟩⟩
 rintro⟨rfl,s5⟩;subst hU9 hD9;have hI5:=hI4.same s5;rfl';exact⟨1,rfl,hI5.sq,⋯,z,l,fn,g,_,tks,bk,td,bd,ls,pg,_,rfl,hI5.s,⋯,⋯,⋯,⋯,qq⟩
end
theorem JW {l:W.OpenLaw} {q:Program} {loose:List Str} {XP:(Str->Option Value)->Heap->Prop} {YP:World->Heap->Prop} {d:DefRec} {K:Params->W.Frag} (hn:l.most=some 63) (hdf:d.params.defaults=[]) (hdn:d.name="law")
  (hY:∀(w:World) (h:Heap),YP w h->(K w.params).In h)
  (F:∀(w:World) (mg:Str->Option Value) (h:Heap),(K w.params).In h->h.Ns mainGlobals mg->∃A:QD,AD (K w.params) mg A):
  W.WalkO q loose XP YP l.row.toRowW d [] (λf vs=>PySem.call f vs):=by
 refine L2.oh (n:=63) (k:=14+1) (x:="_law_script") (CX:=λw=>kG l.prog w) (sp:=λw=>qK (K w.params)) hn (by decide) hdf ⟨rfl,by decide,by decide⟩ hY ?_ (λο ο a ns hl ο hS=>⟨a,ns,rfl,hS,hl,λο=>rfl⟩) λ_ _ _ _ _ ⟨_,_,_,_,_,_,_,_,_,_,z⟩=>z;intro w mg fa h KX G hmg;rw[hdn] at hmg;obtain⟨A,T⟩:=F w mg h KX G;obtain⟨f,fd,e,Fn,hb⟩:=T.Sh;have e0:=hmg.symm.trans e;cases e0;exact⟨fd,hb,λbase ο ο=>Fn.okE tH (λvs H Q E z=>by obtain⟨a,ns,rfl,_⟩:=z;rfl) (mn (P:=l.prog) (w:=w) (base:=base) T)⟩
noncomputable section
open Hd
noncomputable def z0:Nat:=212797753918460261840160686248215125341922462863583914870323496491876377197
noncomputable def z1:Nat:=27127582262911072
noncomputable def z2:Nat:=9700865007064396754801562313776
noncomputable def z3:Nat:=469986605152
noncomputable def z4:Nat:=545146499936607105348423
noncomputable def z5:Nat:=28835115112362063
noncomputable def z6:Nat:=2037243915540886812240
noncomputable def z7:Nat:=2148282720731175150147
noncomputable def z8:Nat:=119247121772623
noncomputable def z9:Nat:=119225645756495
noncomputable def uM:Nat:=2000274411557569787472
noncomputable def vM:Nat:=478459748949
noncomputable def wM:Nat:=1870502957375938719823
noncomputable def xM:Nat:=2054452803
noncomputable def gN:Nat:=7380678962623575146
noncomputable def iN:Nat:=2055256381122481779818
noncomputable def jN:Nat:=36042203234783605173055285604
noncomputable def kN:Nat:=113732351258470
noncomputable def lN:Nat:=7957987429399816821
noncomputable def nN:Nat:=29115482190865009
noncomputable def pN:Nat:=31367281986924648
noncomputable def qN:Nat:=111490630316139
noncomputable def yM:Nat:=2147201852470124049748
noncomputable def KW:Nat:=483571264869516729017965
noncomputable def LW:Nat:=34807946493563893454802022513
noncomputable def MW:Nat:=2360876520579034574696528942098788
noncomputable def NW:Nat:=36328676245180164783460216160
noncomputable def OW:Nat:=483865979046955610959200
noncomputable def QW:Nat:=31381812998265272964474891616
noncomputable def RW:Nat:=139510372636256701339823456
noncomputable def SW:Nat:=554663791283223243418976
noncomputable def TW:Nat:=2360873092051206156928679288139104
noncomputable def UW:Nat:=34488691276352323685072399712
noncomputable def VW:Nat:=604383511565108757081598689489874272
noncomputable def WW:Nat:=32617373019968770244759154016
noncomputable def YW:Nat:=8669722510073851082781740920160
noncomputable def ZW:Nat:=33565081412914118940950687072
noncomputable def yF:Nat:=455125450472104437637216
noncomputable def WE:Nat:=154789842426610354947036250589871895399
noncomputable def zF:Nat:=500416517772168279997240570217455712
noncomputable def AF:Nat:=140854816109632365363434125429399349832812124725344
noncomputable def sK:Nat:=116512133262362862868258912
noncomputable def oF:Nat:=2595807759375494792423391711955702693320880999
noncomputable def iI:Nat:=1718116977
noncomputable def DI:Nat:=504464894567
noncomputable def kE:Nat:=1735222900
noncomputable def tK:Nat:=6944679725401530464
noncomputable def jI:Nat:=2054120046
noncomputable def rN:Nat:=435727529576
noncomputable def fT:Nat:=516757173630863403280740
noncomputable def we:Nat:=624721089673430778640529783835705258327388943700
noncomputable def sN:Nat:=2165357850485127146099
noncomputable def ye:Nat:=2617757014156703991004303271023538183198700884
noncomputable def tN:Nat:=129065384569461
noncomputable def iT:Nat:=28823093466133610
noncomputable def jT:Nat:=30801127769404522
noncomputable def kT:Nat:=28541580069598314
noncomputable def lT:Nat:=31392679273066234308940950897
noncomputable def ze:Nat:=37951420520090778506602714804950266613495697467733332
noncomputable def mT:Nat:=478922323667592571740785
noncomputable def Te:Nat:=578981562671587066094221509702201825946659681620
noncomputable def pT:Nat:=33040738702025329
noncomputable def qT:Nat:=7307774714166534765
noncomputable def uN:Nat:=6944679699547512928
noncomputable def SF:Nat:=531976422797234828493252396058833767
noncomputable def xH:Nat:=1819566709
noncomputable def FP:Nat:=32779080669947234
noncomputable def bH:Nat:=154722361499902317960303193115794240359
noncomputable def GP:Nat:=119161592376672
noncomputable def zM:Nat:=2018578202597599112544
noncomputable def aX:Nat:=8116987160644769142113648668000
noncomputable def HP:Nat:=483829738002411044367712
noncomputable def rT:Nat:=2077948713125041301002385566625120
noncomputable def IP:Nat:=549795146767352790674784
noncomputable def tT:Nat:=2000274446712546946400
noncomputable def JP:Nat:=1889596246164731227488
noncomputable def uT:Nat:=549794786459591391735136
noncomputable def KP:Nat:=549683601607384031718752
noncomputable def LP:Nat:=2000634754473945886048
noncomputable def vT:Nat:=1889089594505186930016
noncomputable def lI:Nat:=29827101539148240018006499424
noncomputable def s (n t:Nat):Value:=.str (S n) t
noncomputable def i (n:Int):Value:=.int n 0
noncomputable def e (P:Params) (n t:Nat) (v:Value):DictEntry:=qi P (S n) t v
noncomputable def fO (a b:String) (x:Stmt) (m r:Value):Obj:=⟨.type "function",none,.func (W.fnOf (Str.ofString a) (Str.ofString b) (BC x) (zC x) (mC x) .none .none .none m none r .none), #[]⟩
def o2:Obj:=⟨.none,none,.dict ⟨[]⟩ 0, #[]⟩
def o3 (P:Params):Obj:=dO 57 [e P 6944663249689206880 165 (s z0 939),e P z1 166 .none,e P 116512114954948911152848992 167 .none,e P 455126385231797511086176 168 (.builtin "__main__.__loader__#opaque"),e P 6944661016558198880 169 .none,e P 500416834696884185539869749159288928 170 (.ref 6),e P 29827167671303893903271485536 171 (.ref 4),e P 6944663245527933024 173 (s z2 172),e P 455125376429887381069920 174 .none,e P z3 193 (.ref 21),e P z4 213 (.ref 31),e P z5 229 (.ref 44),e P z6 245 (.ref 56),e P z7 261 (.ref 68),e P z8 277 (.ref 80),e P z9 293 (.ref 92),e P uM 309 (.ref 104),e P vM 325 (.ref 116),e P wM 341 (.ref 128),e P xM 357 (.ref 140),e P gN 366 (.ref 149),e P iN 375 (.ref 156),e P 101952521820057743536705614 379 (.int (3) 378),e P jN 386 (.ref 163),e P kN 393 (.ref 170),e P lN 402 (.ref 177),e P nN 412 (.ref 184),e P pN 420 (.ref 191),e P qN 430 (.ref 198),e P yM 579 (.ref 311),e P 23616678805231350591419338830 583 (.int (64) 582),e P KW 591 (.ref 322),e P 440040583241 800 (.ref 478),e P 380423630684598931079812568447209550 804 (.int (64) 803),e P LW 813 (.ref 489),e P MW 822 (.ref 496),e P 439988939092 938 (.ref 583),e P NW 948 (.ref 594),e P 8748926586736242016 959 (.ref 601),e P OW 966 (.ref 608),e P QW 975 (.ref 615),e P 1889380072283105815904 984 (.ref 622),e P 1871439432312149929312 992 (.ref 629),e P 8818738978030251360 1000 (.ref 636),e P RW 1010 (.ref 643),e P SW 1018 (.ref 650),e P TW 1024 (.ref 655),e P 1870500991441261718880 1034 (.ref 662),e P 7383200104131489120 1046 (.ref 669),e P UW 1055 (.ref 676),e P VW 1066 (.ref 683),e P 1999484080371106213216 1075 (.ref 690),e P WW 1086 (.ref 697),e P 1870499847949168831840 1102 (.ref 704),e P YW 1120 (.ref 711),e P ZW 1132 (.ref 718),e P 7889517 1150 (.ref 725)]
def DC:Obj:=tO []
def Ue:Obj:=tO [s 108 190]
def Ve:Obj:=cO [s z3 187,s z3 188,s z2 189,i 1,i 1,i 0,i 0,i 3,.ref 15,(.bool true),i 181,.ref 16,.none,.ref 17,.ref 18,.ref 19,i 191,i 1,s z2 192]
def We:Obj:=fO "_wall" "_wall" (AC 0) (s 6944673128113922144 164) (.ref 20)
def Xe:Obj:=⟨(.type "tuple"),none,.seq #[(.type "ValueError")] 0, #[]⟩
def XF:Obj:=⟨(.type "tuple"),none,.seq #[] 0, #[]⟩
def Ye (P:Params):Obj:=dO 3 [e P yF 203 (s WE 194),e P zF 207 (.int (5) 206),e P AF 208 (.ref 29),e P sK 210 (.ref 32),e P z1 211 .none]
def Ze:Obj:=⟨(.type "type"),none,.cls {name:=(Str.ofString "FrameError"),bases:=[(.type "ValueError")],mro:=[.ref 31,(.type "ValueError"),(.type "Exception"),(.type "BaseException"),(.type "object")],ns:=30,qualname:=(Str.ofString "FrameError"),hasDict:=true,slotNames:=[],subclasses:=[.ref 44,.ref 56,.ref 68,.ref 80,.ref 92,.ref 104,.ref 116,.ref 128,.ref 140],abstract:=false,collection:=none,hasDel:=false}, #[(some (.ref 22)),none,(some (s z4 196)),(some (s z4 204)),(some (.builtin "ValueError.__new__")),(some (.bool true))]⟩
def af:Obj:=⟨(.type "getset_descriptor"),none,.fields ⟨[s sK 209,.ref 31,(.builtin "ExceptionGroup.__weakref__"),.none]⟩, #[]⟩
def qG:Obj:=⟨(.type "tuple"),none,.seq #[.ref 31] 0, #[]⟩
def bf (P:Params):Obj:=dO 2 [e P yF 221 (s WE 194),e P zF 225 (.int (7) 224),e P AF 226 (.ref 42),e P z1 227 .none]
def cf:Obj:=⟨(.type "type"),none,.cls {name:=(Str.ofString "NoShape"),bases:=[.ref 31],mro:=[.ref 44,.ref 31,(.type "ValueError"),(.type "Exception"),(.type "BaseException"),(.type "object")],ns:=43,qualname:=(Str.ofString "NoShape"),hasDict:=true,slotNames:=[],subclasses:=[],abstract:=false,collection:=none,hasDel:=false}, #[(some (.ref 35)),none,(some (s z5 214)),(some (s z5 222)),(some (.builtin "ValueError.__new__")),(some (.bool true))]⟩
def df (P:Params):Obj:=dO 2 [e P yF 237 (s WE 194),e P zF 241 (.int (9) 240),e P AF 242 (.ref 54),e P z1 243 .none]
def gf:Obj:=⟨(.type "type"),none,.cls {name:=(Str.ofString "OutOfRoom"),bases:=[.ref 31],mro:=[.ref 56,.ref 31,(.type "ValueError"),(.type "Exception"),(.type "BaseException"),(.type "object")],ns:=55,qualname:=(Str.ofString "OutOfRoom"),hasDict:=true,slotNames:=[],subclasses:=[],abstract:=false,collection:=none,hasDel:=false}, #[(some (.ref 47)),none,(some (s z6 230)),(some (s z6 238)),(some (.builtin "ValueError.__new__")),(some (.bool true))]⟩
def jf (P:Params):Obj:=dO 2 [e P yF 253 (s WE 194),e P zF 257 (.int (11) 256),e P AF 258 (.ref 66),e P z1 259 .none]
def lf:Obj:=⟨(.type "type"),none,.cls {name:=(Str.ofString "BadRights"),bases:=[.ref 31],mro:=[.ref 68,.ref 31,(.type "ValueError"),(.type "Exception"),(.type "BaseException"),(.type "object")],ns:=67,qualname:=(Str.ofString "BadRights"),hasDict:=true,slotNames:=[],subclasses:=[],abstract:=false,collection:=none,hasDel:=false}, #[(some (.ref 59)),none,(some (s z7 246)),(some (s z7 254)),(some (.builtin "ValueError.__new__")),(some (.bool true))]⟩
def mf (P:Params):Obj:=dO 2 [e P yF 269 (s WE 194),e P zF 273 (.int (13) 272),e P AF 274 (.ref 78),e P z1 275 .none]
def pf:Obj:=⟨(.type "type"),none,.cls {name:=(Str.ofString "NoTask"),bases:=[.ref 31],mro:=[.ref 80,.ref 31,(.type "ValueError"),(.type "Exception"),(.type "BaseException"),(.type "object")],ns:=79,qualname:=(Str.ofString "NoTask"),hasDict:=true,slotNames:=[],subclasses:=[],abstract:=false,collection:=none,hasDel:=false}, #[(some (.ref 71)),none,(some (s z8 262)),(some (s z8 270)),(some (.builtin "ValueError.__new__")),(some (.bool true))]⟩
def qf (P:Params):Obj:=dO 2 [e P yF 285 (s WE 194),e P zF 289 (.int (15) 288),e P AF 290 (.ref 90),e P z1 291 .none]
def rf:Obj:=⟨(.type "type"),none,.cls {name:=(Str.ofString "NoBank"),bases:=[.ref 31],mro:=[.ref 92,.ref 31,(.type "ValueError"),(.type "Exception"),(.type "BaseException"),(.type "object")],ns:=91,qualname:=(Str.ofString "NoBank"),hasDict:=true,slotNames:=[],subclasses:=[],abstract:=false,collection:=none,hasDel:=false}, #[(some (.ref 83)),none,(some (s z9 278)),(some (s z9 286)),(some (.builtin "ValueError.__new__")),(some (.bool true))]⟩
def MP (P:Params):Obj:=dO 2 [e P yF 301 (s WE 194),e P zF 305 (.int (17) 304),e P AF 306 (.ref 102),e P z1 307 .none]
def NP:Obj:=⟨(.type "type"),none,.cls {name:=(Str.ofString "OutOfBank"),bases:=[.ref 31],mro:=[.ref 104,.ref 31,(.type "ValueError"),(.type "Exception"),(.type "BaseException"),(.type "object")],ns:=103,qualname:=(Str.ofString "OutOfBank"),hasDict:=true,slotNames:=[],subclasses:=[],abstract:=false,collection:=none,hasDel:=false}, #[(some (.ref 95)),none,(some (s uM 294)),(some (s uM 302)),(some (.builtin "ValueError.__new__")),(some (.bool true))]⟩
def OP (P:Params):Obj:=dO 2 [e P yF 317 (s WE 194),e P zF 321 (.int (19) 320),e P AF 322 (.ref 114),e P z1 323 .none]
def PP:Obj:=⟨(.type "type"),none,.cls {name:=(Str.ofString "Taken"),bases:=[.ref 31],mro:=[.ref 116,.ref 31,(.type "ValueError"),(.type "Exception"),(.type "BaseException"),(.type "object")],ns:=115,qualname:=(Str.ofString "Taken"),hasDict:=true,slotNames:=[],subclasses:=[],abstract:=false,collection:=none,hasDel:=false}, #[(some (.ref 107)),none,(some (s vM 310)),(some (s vM 318)),(some (.builtin "ValueError.__new__")),(some (.bool true))]⟩
def QP (P:Params):Obj:=dO 2 [e P yF 333 (s WE 194),e P zF 337 (.int (21) 336),e P AF 338 (.ref 126),e P z1 339 .none]
def RP:Obj:=⟨(.type "type"),none,.cls {name:=(Str.ofString "NotMapped"),bases:=[.ref 31],mro:=[.ref 128,.ref 31,(.type "ValueError"),(.type "Exception"),(.type "BaseException"),(.type "object")],ns:=127,qualname:=(Str.ofString "NotMapped"),hasDict:=true,slotNames:=[],subclasses:=[],abstract:=false,collection:=none,hasDel:=false}, #[(some (.ref 119)),none,(some (s wM 326)),(some (s wM 334)),(some (.builtin "ValueError.__new__")),(some (.bool true))]⟩
def UP (P:Params):Obj:=dO 2 [e P yF 349 (s WE 194),e P zF 353 (.int (23) 352),e P AF 354 (.ref 138),e P z1 355 .none]
def VP:Obj:=⟨(.type "type"),none,.cls {name:=(Str.ofString "Busy"),bases:=[.ref 31],mro:=[.ref 140,.ref 31,(.type "ValueError"),(.type "Exception"),(.type "BaseException"),(.type "object")],ns:=139,qualname:=(Str.ofString "Busy"),hasDict:=true,slotNames:=[],subclasses:=[],abstract:=false,collection:=none,hasDel:=false}, #[(some (.ref 131)),none,(some (s xM 342)),(some (s xM 350)),(some (.builtin "ValueError.__new__")),(some (.bool true))]⟩
def WP:Obj:=tO [s 448545843573 363]
def ZP:Obj:=cO [s gN 360,s gN 361,s z2 362,i 26,i 1,i 0,i 0,i 3,.ref 143,(.bool true),i 181,.ref 144,.none,.ref 145,.ref 146,.ref 147,i 364,i 26,s z2 365]
def aQ:Obj:=fO "is_whole" "is_whole" (AC 13) (s 154722281479463014256600682153103225703 358) (.ref 148)
def bQ:Obj:=tO [s 448545843573 370,s 7893101 371,s 1768450665 372]
def cQ:Obj:=cO [s iN 367,s iN 368,s z2 369,i 28,i 3,i 0,i 0,i 3,.ref 150,(.bool true),i 181,.ref 151,.none,.ref 152,.ref 153,.ref 154,i 373,i 28,s z2 374]
def dQ:Obj:=fO "is_within" "is_within" (AC 14) (s 154722281479463014256600682153103225703 358) (.ref 155)
def eQ:Obj:=tO [s 128047628446323 383]
def fQ:Obj:=cO [s jN 380,s jN 381,s z2 382,i 32,i 1,i 0,i 0,i 3,.ref 157,(.bool true),i 181,.ref 158,.none,.ref 159,.ref 160,.ref 161,i 384,i 32,s z2 385]
def gQ:Obj:=fO "check_rights" "check_rights" (AC 17) (s oF 376) (.ref 162)
def iQ:Obj:=tO [s 7304819 390]
def jQ:Obj:=cO [s kN 387,s kN 388,s z2 389,i 35,i 1,i 0,i 0,i 3,.ref 164,(.bool true),i 181,.ref 165,.none,.ref 166,.ref 167,.ref 168,i 391,i 35,s z2 392]
def kQ:Obj:=fO "end_of" "end_of" (AC 18) (s oF 376) (.ref 169)
def lQ:Obj:=tO [s 7304819 397,s iI 398,s 6711925 399]
def mQ:Obj:=cO [s lN 394,s lN 395,s z2 396,i 37,i 2,i 0,i 0,i 3,.ref 171,(.bool true),i 181,.ref 172,.none,.ref 173,.ref 174,.ref 175,i 400,i 37,s z2 401]
def nQ:Obj:=fO "tie_from" "tie_from" (AC 19) (s oF 376) (.ref 176)
def oQ:Obj:=tO [s 7304819 406,s 7893101 407,s 1768450665 408,s DI 409]
def pQ:Obj:=cO [s nN 403,s nN 404,s z2 405,i 42,i 3,i 0,i 0,i 3,.ref 178,(.bool true),i 181,.ref 179,.none,.ref 180,.ref 181,.ref 182,i 410,i 42,s z2 411]
def qQ:Obj:=fO "part_of" "part_of" (AC 20) (s oF 376) (.ref 183)
def rQ:Obj:=tO [s 7304819 416,s 495640207981 417]
def sQ:Obj:=cO [s pN 413,s pN 414,s z2 415,i 45,i 2,i 0,i 0,i 3,.ref 185,(.bool true),i 181,.ref 186,.none,.ref 187,.ref 188,.ref 189,i 418,i 45,s z2 419]
def tQ:Obj:=fO "goes_on" "goes_on" (AC 21) (s oF 376) (.ref 190)
def uQ:Obj:=tO [s 1953461875 424,s 495640405607 425,s 7304819 426,s 1970561645 427]
def vQ:Obj:=cO [s qN 421,s qN 422,s z2 423,i 47,i 1,i 0,i 0,i 3,.ref 192,(.bool true),i 181,.ref 193,.none,.ref 194,.ref 195,.ref 196,i 428,i 47,s z2 429]
def wQ:Obj:=fO "joined" "joined" (AC 22) (s oF 376) (.ref 197)
def xQ:Obj:=tO [s kE 446]
def yQ:Obj:=cO [s tK 443,s 8395602628992143088491004079736651362039124 444,s z2 445,i 58,i 1,i 0,i 0,i 3,.ref 206,(.bool true),i 181,.ref 207,.none,.ref 208,.ref 209,.ref 210,i 447,i 58,s z2 448]
def zQ:Obj:=fO "__init__" "Stretches.__init__" (oC (AC 23) 0) (s oF 376) (.ref 211)
def AQ:Obj:=⟨(.type "tuple"),none,.seq #[.none] 0, #[]⟩
def BQ:Obj:=tO [s kE 453,s DI 454,s jI 455,s 128047628446323 456,s 6711925 457]
def CQ:Obj:=cO [s 7698033 450,s 9306351078043889216994357245268 451,s z2 452,i 61,i 5,i 0,i 0,i 3,.ref 214,(.bool true),i 181,.ref 215,.none,.ref 216,.ref 217,.ref 218,i 458,i 61,s z2 459]
def DQ:Obj:=⟨(.type "function"),none,.func (W.fnOf (Str.ofString "put") (Str.ofString "Stretches.put") (BC (oC (AC 23) 1)) (zC (oC (AC 23) 1)) (mC (oC (AC 23) 1)) (.ref 213) .none .none (s oF 376) none (.ref 219) .none), #[]⟩
def EQ:Obj:=tO [s kE 464,s DI 465,s jI 466]
def FQ:Obj:=cO [s 7698020 461,s 9306335362008234226815086064980 462,s z2 463,i 67,i 3,i 0,i 0,i 3,.ref 221,(.bool true),i 181,.ref 222,.none,.ref 223,.ref 224,.ref 225,i 467,i 67,s z2 468]
def GQ:Obj:=fO "cut" "Stretches.cut" (oC (AC 23) 2) (s oF 376) (.ref 226)
def HQ:Obj:=cO [s rN 470,s 526762260821547473070605117598954836 471,s z2 472,i 71,i 4,i 0,i 0,i 3,.ref 228,(.bool true),i 181,.ref 229,.none,.none,.none,.ref 230,i 473,i 71,s z2 474]
def IQ:Obj:=fO "guard" "Stretches.guard" (oC (AC 23) 3) (s oF 376) (.ref 231)
def JQ:Obj:=tO [s kE 479,s DI 480,s jI 481]
def KQ:Obj:=cO [s fT 476,s we 477,s z2 478,i 77,i 3,i 0,i 0,i 3,.ref 233,(.bool true),i 181,.ref 234,.none,.ref 235,.ref 236,.ref 237,i 482,i 77,s z2 483]
def LQ:Obj:=fO "check_full" "Stretches.check_full" (oC (AC 23) 4) (s oF 376) (.ref 238)
def MQ:Obj:=tO [s kE 488,s iI 489,s 1970496113 490]
def NQ:Obj:=cO [s sN 485,s ye 486,s z2 487,i 81,i 2,i 0,i 0,i 3,.ref 240,(.bool true),i 181,.ref 241,.none,.ref 242,.ref 243,.ref 244,i 491,i 81,s z2 492]
def OQ:Obj:=fO "rights_at" "Stretches.rights_at" (oC (AC 23) 5) (s oF 376) (.ref 245)
def PQ:Obj:=tO [s kE 497,s iI 498,s 1970496113 499]
def QQ:Obj:=cO [s tN 494,s 156030475824513176713048584412386784596 495,s z2 496,i 85,i 2,i 0,i 0,i 3,.ref 247,(.bool true),i 181,.ref 248,.none,.ref 249,.ref 250,.ref 251,i 500,i 85,s z2 501]
def RQ:Obj:=fO "tie_at" "Stretches.tie_at" (oC (AC 23) 6) (s oF 376) (.ref 252)
def SQ:Obj:=tO [s kE 506,s DI 507,s jI 508]
def TQ:Obj:=cO [s iT 503,s 34844981892374637606343691086821957268820 504,s z2 505,i 89,i 3,i 0,i 0,i 3,.ref 254,(.bool true),i 181,.ref 255,.none,.ref 256,.ref 257,.ref 258,i 509,i 89,s z2 510]
def UQ:Obj:=fO "is_free" "Stretches.is_free" (oC (AC 23) 7) (s oF 376) (.ref 259)
def VQ:Obj:=cO [s jT 512,s 37236278633682276866180525579755284821332 513,s z2 514,i 92,i 3,i 0,i 0,i 3,.ref 261,(.bool true),i 181,.ref 262,.none,.none,.none,.ref 263,i 515,i 92,s z2 516]
def WQ:Obj:=fO "is_full" "Stretches.is_full" (oC (AC 23) 8) (s oF 376) (.ref 264)
def XQ:Obj:=cO [s kT 518,s 34504653078735706780555045640184744080724 519,s z2 520,i 95,i 2,i 0,i 0,i 3,.ref 266,(.bool true),i 181,.ref 267,.none,.none,.none,.ref 268,i 521,i 95,s z2 522]
def YQ:Obj:=fO "is_tied" "Stretches.is_tied" (oC (AC 23) 9) (s oF 376) (.ref 269)
def ZQ:Obj:=tO [s kE 527]
def aR:Obj:=cO [s 1701671029 524,s 2057194043672392837723022735668564 525,s z2 526,i 98,i 1,i 0,i 0,i 3,.ref 271,(.bool true),i 181,.ref 272,.none,.ref 273,.ref 274,.ref 275,i 528,i 98,s z2 529]
def bR:Obj:=fO "told" "Stretches.told" (oC (AC 23) 10) (s oF 376) (.ref 276)
def cR:Obj:=tO [s kE 534,s 495639426416 535]
def dR:Obj:=cO [s 111490546888804 531,s 134783800776830844550708368151093146964 532,s z2 533,i 101,i 1,i 0,i 0,i 3,.ref 278,(.bool true),i 181,.ref 279,.none,.ref 280,.ref 281,.ref 282,i 536,i 101,s z2 537]
def eR:Obj:=fO "copied" "Stretches.copied" (oC (AC 23) 11) (s oF 376) (.ref 283)
def fR:Obj:=tO [s kE 542,s iI 543,s 7893101 544,s 1768450665 545,s 112620038613614 546]
def gR:Obj:=cO [s lT 539,s ze 540,s z2 541,i 106,i 2,i 0,i 0,i 3,.ref 285,(.bool true),i 181,.ref 286,.none,.ref 287,.ref 288,.ref 289,i 547,i 106,s z2 548]
def iR:Obj:=fO "place_behind" "Stretches.place_behind" (oC (AC 23) 12) (s oF 376) (.ref 290)
def jR:Obj:=cO [s mT 550,s Te 551,s z2 552,i 117,i 3,i 0,i 0,i 3,.ref 292,(.bool true),i 181,.ref 293,.none,.none,.none,.ref 294,i 553,i 117,s z2 554]
def kR:Obj:=fO "parts_amid" "Stretches.parts_amid" (oC (AC 23) 13) (s oF 376) (.ref 295)
def lR:Obj:=tO [s kE 559,s iI 560,s 500186702449 561]
def mR:Obj:=cO [s pT 556,s 39943802116018770004276114331333133825364 557,s z2 558,i 122,i 2,i 0,i 0,i 3,.ref 297,(.bool true),i 181,.ref 298,.none,.ref 299,.ref 300,.ref 301,i 562,i 122,s z2 563]
def nR:Obj:=fO "part_at" "Stretches.part_at" (oC (AC 23) 14) (s oF 376) (.ref 302)
def pR:Obj:=cO [s qT 565,s 8834557535882840484900534439152844413302100 566,s z2 567,i 126,i 4,i 0,i 0,i 3,.ref 304,(.bool true),i 181,.ref 305,.none,.none,.none,.ref 306,i 568,i 126,s z2 569]
def qR:Obj:=fO "lay_amid" "Stretches.lay_amid" (oC (AC 23) 15) (s oF 376) (.ref 307)
def rR:Obj:=⟨(.type "tuple"),none,.seq #[(.str "runs" 571)] 0, #[]⟩
def sR (P:Params):Obj:=dO 4 [e P yF 438 (s oF 376),e P zF 442 (.int (56) 441),e P tK 449 (.ref 212),e P 7698033 460 (.ref 220),e P 7698020 469 (.ref 227),e P rN 475 (.ref 232),e P fT 484 (.ref 239),e P sN 493 (.ref 246),e P tN 502 (.ref 253),e P iT 511 (.ref 260),e P jT 517 (.ref 265),e P kT 523 (.ref 270),e P 1701671029 530 (.ref 277),e P 111490546888804 538 (.ref 284),e P lT 549 (.ref 291),e P mT 555 (.ref 296),e P pT 564 (.ref 303),e P qT 570 (.ref 308),e P AF 572 (.ref 309),e P uN 574 (.ref 312),e P sK 576 (.ref 313),e P z1 577 .none]
def tR:Obj:=⟨(.type "type"),none,.cls {name:=(Str.ofString "Stretches"),bases:=[(.type "object")],mro:=[.ref 311,(.type "object")],ns:=310,qualname:=(Str.ofString "Stretches"),hasDict:=true,slotNames:=[],subclasses:=[],abstract:=false,collection:=none,hasDel:=false}, #[none,none,(some (s yM 431)),(some (s yM 439)),(some (.builtin "object.__new__")),(some (.bool true))]⟩
def vR:Obj:=⟨(.type "getset_descriptor"),none,.fields ⟨[s uN 573,.ref 311,(.builtin "function.__dict__"),(.builtin "function.__dict__#set")]⟩, #[]⟩
def wR:Obj:=⟨(.type "getset_descriptor"),none,.fields ⟨[s sK 575,.ref 311,(.builtin "ExceptionGroup.__weakref__"),.none]⟩, #[]⟩
def bX:Obj:=tO [s 32777980890478191 587,s 126883592042095 588]
def cX:Obj:=cO [s KW 584,s KW 585,s z2 586,i 136,i 1,i 0,i 0,i 3,.ref 316,(.bool true),i 181,.ref 317,.none,.ref 318,.ref 319,.ref 320,i 589,i 136,s z2 590]
def dX:Obj:=fO "least_free" "least_free" (AC 26) (s SF 580) (.ref 321)
def eX:Obj:=tO [s kE 607,s 439988939124 608]
def fX:Obj:=cO [s tK 604,s 1954753563970360692704735984513097 605,s z2 606,i 143,i 2,i 0,i 0,i 3,.ref 330,(.bool true),i 181,.ref 331,.none,.ref 332,.ref 333,.ref 334,i 609,i 143,s z2 610]
def gX:Obj:=fO "__init__" "House.__init__" (oC (AC 27) 0) (s SF 580) (.ref 335)
def iX:Obj:=tO [s kE 615,s xH 616]
def jX:Obj:=cO [s 7814979509663852143 612,s 2199721175476886628490265163624521 613,s z2 614,i 148,i 1,i 0,i 0,i 3,.ref 337,(.bool true),i 181,.ref 338,.none,.ref 339,.ref 340,.ref 341,i 617,i 148,s z2 618]
def kX:Obj:=fO "new_task" "House.new_task" (oC (AC 27) 1) (s SF 580) (.ref 342)
def lX:Obj:=tO [s kE 623,s xH 624,s 495639426416 625]
def mX:Obj:=cO [s 1819504743 620,s 512145055212970217730121 621,s z2 622,i 153,i 2,i 0,i 0,i 3,.ref 344,(.bool true),i 181,.ref 345,.none,.ref 346,.ref 347,.ref 348,i 626,i 153,s z2 627]
def nX:Obj:=fO "fork" "House.fork" (oC (AC 27) 2) (s SF 580) (.ref 349)
def pX:Obj:=tO [s kE 632,s xH 633]
def qX:Obj:=cO [s 7814979509662609254 629,s 2199721175476536786337936233099337 630,s z2 631,i 159,i 2,i 0,i 0,i 3,.ref 351,(.bool true),i 181,.ref 352,.none,.ref 353,.ref 354,.ref 355,i 634,i 159,s z2 635]
def rX:Obj:=fO "end_task" "House.end_task" (oC (AC 27) 3) (s SF 580) (.ref 356)
def sX:Obj:=tO [s kE 640,s jI 641,s 1819239011 642]
def tX:Obj:=cO [s 7813572057470887535 637,s 2199325012903650553738972299161673 638,s z2 639,i 163,i 2,i 0,i 0,i 3,.ref 358,(.bool true),i 181,.ref 359,.none,.ref 360,.ref 361,.ref 362,i 643,i 163,s z2 644]
def uX:Obj:=fO "new_bank" "House.new_bank" (oC (AC 27) 4) (s SF 580) (.ref 363)
def vX:Obj:=cO [s 2000274446712430424933 646,s 563027203303301669962607049756274761 647,s z2 648,i 170,i 2,i 0,i 0,i 3,.ref 365,(.bool true),i 181,.ref 366,.none,.none,.none,.ref 367,i 649,i 170,s z2 650]
def wX:Obj:=fO "drop_bank" "House.drop_bank" (oC (AC 27) 5) (s SF 580) (.ref 368)
def xX:Obj:=⟨(.type "tuple"),none,.seq #[.none,(.int (0) 652)] 0, #[]⟩
def yX:Obj:=tO [s kE 656,s xH 657,s DI 658,s jI 659,s 128047628446323 660,s 1819239011 661,s 504447006068 662,s 6711925 663]
def AX:Obj:=cO [s 8020589 653,s 2257595154097830785097 654,s z2 655,i 176,i 7,i 0,i 0,i 3,.ref 371,(.bool true),i 181,.ref 372,.none,.ref 373,.ref 374,.ref 375,i 664,i 176,s z2 665]
def BX:Obj:=⟨(.type "function"),none,.func (W.fnOf (Str.ofString "lay") (Str.ofString "House.lay") (BC (oC (AC 27) 6)) (zC (oC (AC 27) 6)) (mC (oC (AC 27) 6)) (.ref 370) .none .none (s SF 580) none (.ref 376) .none), #[]⟩
def DX:Obj:=tO [s kE 670,s xH 671,s DI 672,s jI 673]
def EX:Obj:=cO [s 1969711725 667,s 554424561973198142730313 668,s z2 669,i 185,i 4,i 0,i 0,i 3,.ref 378,(.bool true),i 181,.ref 379,.none,.ref 380,.ref 381,.ref 382,i 674,i 185,s z2 675]
def FX:Obj:=fO "lift" "House.lift" (oC (AC 27) 7) (s SF 580) (.ref 383)
def GX:Obj:=tO [s kE 680,s xH 681,s DI 682,s jI 683,s 128047628446323 684]
def HX:Obj:=cO [s rN 677,s 122646396239648390521450569 678,s z2 679,i 189,i 5,i 0,i 0,i 3,.ref 385,(.bool true),i 181,.ref 386,.none,.ref 387,.ref 388,.ref 389,i 685,i 189,s z2 686]
def IX:Obj:=fO "guard" "House.guard" (oC (AC 27) 8) (s SF 580) (.ref 390)
def JX:Obj:=tO [s kE 691,s xH 692,s FP 693,s 1970233976 694]
def LX:Obj:=cO [s 435510080610 688,s 122585189797007784293068873 689,s z2 690,i 193,i 4,i 0,i 0,i 3,.ref 392,(.bool true),i 181,.ref 393,.none,.ref 394,.ref 395,.ref 396,i 695,i 193,s z2 696]
def MX:Obj:=fO "asked" "House.asked" (oC (AC 27) 9) (s SF 580) (.ref 397)
def NX:Obj:=tO [s kE 701]
def OX:Obj:=cO [s 2166657694140852363893 698,s 609859923998260050033739136169832521 699,s z2 700,i 196,i 1,i 0,i 0,i 3,.ref 399,(.bool true),i 181,.ref 400,.none,.ref 401,.ref 402,.ref 403,i 702,i 196,s z2 703]
def PX:Obj:=fO "task_list" "House.task_list" (oC (AC 27) 10) (s SF 580) (.ref 404)
def QX:Obj:=tO [s kE 708]
def RX:Obj:=cO [s 2166657694140852036195 705,s 609859923998259957794952218041282633 706,s z2 707,i 199,i 1,i 0,i 0,i 3,.ref 406,(.bool true),i 181,.ref 407,.none,.ref 408,.ref 409,.ref 410,i 709,i 199,s z2 710]
def SX:Obj:=fO "bank_list" "House.bank_list" (oC (AC 27) 11) (s SF 580) (.ref 411)
def TX:Obj:=tO [s kE 715,s 1819239011 716]
def UX:Obj:=cO [s 1890460943890055651939 712,s 532117450153858173809377884935450697 713,s z2 714,i 202,i 2,i 0,i 0,i 3,.ref 413,(.bool true),i 181,.ref 414,.none,.ref 415,.ref 416,.ref 417,i 717,i 202,s z2 718]
def VX:Obj:=fO "bank_size" "House.bank_size" (oC (AC 27) 12) (s SF 580) (.ref 418)
def WX:Obj:=tO [s kE 723,s xH 724]
def XX:Obj:=cO [s 32012811197779588502284105076 720,s 9010805286337637281539545668179908239978569 721,s z2 722,i 206,i 2,i 0,i 0,i 3,.ref 420,(.bool true),i 181,.ref 421,.none,.ref 422,.ref 423,.ref 424,i 725,i 206,s z2 726]
def YX:Obj:=fO "stretches_of" "House.stretches_of" (oC (AC 27) 13) (s SF 580) (.ref 425)
def ZX:Obj:=tO [s kE 731,s xH 732,s iI 733]
def aY:Obj:=cO [s sN 728,s 609494050535537300399575152849219657 729,s z2 730,i 210,i 3,i 0,i 0,i 3,.ref 427,(.bool true),i 181,.ref 428,.none,.ref 429,.ref 430,.ref 431,i 734,i 210,s z2 735]
def bY:Obj:=fO "rights_at" "House.rights_at" (oC (AC 27) 14) (s SF 580) (.ref 432)
def cY:Obj:=tO [s kE 740,s xH 741,s iI 742]
def dY:Obj:=cO [s tN 737,s 36328676115840947361617965129 738,s z2 739,i 214,i 3,i 0,i 0,i 3,.ref 434,(.bool true),i 181,.ref 435,.none,.ref 436,.ref 437,.ref 438,i 743,i 214,s z2 744]
def eY:Obj:=fO "tie_at" "House.tie_at" (oC (AC 27) 15) (s SF 580) (.ref 439)
def fY:Obj:=tO [s kE 749,s xH 750]
def gY:Obj:=cO [s 7453563436348760689 746,s 2097991594657664520040000427290697 747,s z2 748,i 218,i 2,i 0,i 0,i 3,.ref 441,(.bool true),i 181,.ref 442,.none,.ref 443,.ref 444,.ref 445,i 751,i 218,s z2 752]
def iY:Obj:=fO "pages_of" "House.pages_of" (oC (AC 27) 16) (s SF 580) (.ref 446)
def jY:Obj:=tO [s kE 757,s xH 758]
def kY:Obj:=cO [s 512162497145278640318820 754,s 144160926956038725368327681379818434633 755,s z2 756,i 221,i 2,i 0,i 0,i 3,.ref 448,(.bool true),i 181,.ref 449,.none,.ref 450,.ref 451,.ref 452,i 759,i 221,s z2 760]
def lY:Obj:=fO "check_task" "House.check_task" (oC (AC 27) 17) (s SF 580) (.ref 453)
def mY:Obj:=tO [s kE 765,s 1819239011 766]
def nY:Obj:=cO [s 512070258358360511768932 762,s 144134964045639125973426952214381228105 763,s z2 764,i 225,i 2,i 0,i 0,i 3,.ref 455,(.bool true),i 181,.ref 456,.none,.ref 457,.ref 458,.ref 459,i 767,i 225,s z2 768]
def oY:Obj:=fO "check_bank" "House.check_bank" (oC (AC 27) 18) (s SF 580) (.ref 460)
def pY:Obj:=tO [s kE 773,s xH 774,s DI 775,s jI 776]
def qY:Obj:=cO [s 8350047493112005182606836918628 770,s 2350329423656573175351140194157426667259588681 771,s z2 772,i 229,i 4,i 0,i 0,i 3,.ref 462,(.bool true),i 181,.ref 463,.none,.ref 464,.ref 465,.ref 466,i 777,i 229,s z2 778]
def rY:Obj:=fO "check_stretch" "House.check_stretch" (oC (AC 27) 19) (s SF 580) (.ref 467)
def sY:Obj:=tO [s kE 783,s 1819239011 784,s 504447006068 785,s jI 786]
def tY:Obj:=cO [s 9446029003694613325605449134053798776826212 780,s 2658820793823122384803673107998479853226123854532207603785 781,s z2 782,i 234,i 4,i 0,i 0,i 3,.ref 469,(.bool true),i 181,.ref 470,.none,.ref 471,.ref 472,.ref 473,i 787,i 234,s z2 788]
def uY:Obj:=fO "check_part_of_bank" "House.check_part_of_bank" (oC (AC 27) 20) (s SF 580) (.ref 474)
def vY:Obj:=⟨(.type "tuple"),none,.seq #[(.str "banks" 790),(.str "shape" 791),(.str "tasks" 792)] 0, #[]⟩
def wY (P:Params):Obj:=dO 4 [e P yF 599 (s SF 580),e P zF 603 (.int (141) 602),e P tK 611 (.ref 336),e P 7814979509663852143 619 (.ref 343),e P 1819504743 628 (.ref 350),e P 7814979509662609254 636 (.ref 357),e P 7813572057470887535 645 (.ref 364),e P 2000274446712430424933 651 (.ref 369),e P 8020589 666 (.ref 377),e P 1969711725 676 (.ref 384),e P rN 687 (.ref 391),e P 435510080610 697 (.ref 398),e P 2166657694140852363893 704 (.ref 405),e P 2166657694140852036195 711 (.ref 412),e P 1890460943890055651939 719 (.ref 419),e P 32012811197779588502284105076 727 (.ref 426),e P sN 736 (.ref 433),e P tN 745 (.ref 440),e P 7453563436348760689 753 (.ref 447),e P 512162497145278640318820 761 (.ref 454),e P 512070258358360511768932 769 (.ref 461),e P 8350047493112005182606836918628 779 (.ref 468),e P 9446029003694613325605449134053798776826212 789 (.ref 475),e P AF 793 (.ref 476),e P uN 795 (.ref 479),e P sK 797 (.ref 480),e P z1 798 .none]
def xY:Obj:=⟨(.type "type"),none,.cls {name:=(Str.ofString "House"),bases:=[(.type "object")],mro:=[.ref 478,(.type "object")],ns:=477,qualname:=(Str.ofString "House"),hasDict:=true,slotNames:=[],subclasses:=[],abstract:=false,collection:=none,hasDel:=false}, #[none,none,(some (s 440040583241 592)),(some (s 440040583241 600)),(some (.builtin "object.__new__")),(some (.bool true))]⟩
def yY:Obj:=⟨(.type "getset_descriptor"),none,.fields ⟨[s uN 794,.ref 478,(.builtin "function.__dict__"),(.builtin "function.__dict__#set")]⟩, #[]⟩
def AY:Obj:=⟨(.type "getset_descriptor"),none,.fields ⟨[s sK 796,.ref 478,(.builtin "ExceptionGroup.__weakref__"),.none]⟩, #[]⟩
def BY:Obj:=tO [s 8462094853666339174 808,s 495640408177 809,s 7525350520412074085 810]
def CY:Obj:=cO [s LW 805,s LW 806,s z2 807,i 240,i 1,i 0,i 0,i 3,.ref 483,(.bool true),i 181,.ref 484,.none,.ref 485,.ref 486,.ref 487,i 811,i 240,s z2 812]
def DY:Obj:=fO "power_of_two" "power_of_two" (AC 30) (s bH 801) (.ref 488)
def EY:Obj:=tO [s 128013219358317 817,s 7299687 818,s 478526206824 819]
def FY:Obj:=cO [s MW 814,s MW 815,s z2 816,i 245,i 3,i 0,i 0,i 3,.ref 490,(.bool true),i 181,.ref 491,.none,.ref 492,.ref 493,.ref 494,i 820,i 245,s z2 821]
def GY:Obj:=fO "check_measures" "check_measures" (AC 31) (s bH 801) (.ref 495)
def HY:Obj:=tO [s kE 838,s 128013219358317 839,s 7299687 840,s 478526206824 841]
def IY:Obj:=cO [s tK 835,s 1954753563970360692704735932868948 836,s z2 837,i 254,i 4,i 0,i 0,i 3,.ref 504,(.bool true),i 181,.ref 505,.none,.ref 506,.ref 507,.ref 508,i 842,i 254,s z2 843]
def JY:Obj:=fO "__init__" "Shape.__init__" (oC (AC 32) 0) (s bH 801) (.ref 509)
def KY:Obj:=tO [s kE 848]
def LY:Obj:=cO [s 483958001635892750870900 845,s 136222067239398530400517607478345754964 846,s z2 847,i 263,i 1,i 0,i 0,i 3,.ref 511,(.bool true),i 181,.ref 512,.none,.ref 513,.ref 514,.ref 515,i 849,i 263,s z2 850]
def MY:Obj:=fO "sheet_size" "Shape.sheet_size" (oC (AC 32) 1) (s bH 801) (.ref 516)
def NY:Obj:=tO [s kE 855]
def OY:Obj:=cO [s 554573001519589315076721 852,s 156098422687084996958981798045893683540 853,s z2 854,i 266,i 1,i 0,i 0,i 3,.ref 518,(.bool true),i 181,.ref 519,.none,.ref 520,.ref 521,.ref 522,i 856,i 266,s z2 857]
def PY:Obj:=fO "page_count" "Shape.page_count" (oC (AC 32) 2) (s bH 801) (.ref 523)
def QY:Obj:=tO [s kE 862,s iI 863]
def RY:Obj:=cO [s 7379256228535624297 859,s 2077075975069028078541421527853396 860,s z2 861,i 269,i 2,i 0,i 0,i 3,.ref 525,(.bool true),i 181,.ref 526,.none,.ref 527,.ref 528,.ref 529,i 864,i 269,s z2 865]
def SY:Obj:=fO "has_page" "Shape.has_page" (oC (AC 32) 3) (s bH 801) (.ref 530)
def TY:Obj:=tO [s kE 870,s iI 871]
def UY:Obj:=cO [s 483606936193276347574628 867,s 136123251102114162142305122687958280532 868,s z2 869,i 272,i 2,i 0,i 0,i 3,.ref 532,(.bool true),i 181,.ref 533,.none,.ref 534,.ref 535,.ref 536,i 872,i 272,s z2 873]
def VY:Obj:=fO "check_page" "Shape.check_page" (oC (AC 32) 4) (s bH 801) (.ref 537)
def WY:Obj:=tO [s kE 878,s FP 879]
def XY:Obj:=cO [s 140785079470369141693899369 875,s 39627476965130008305525577047426929420628 876,s z2 877,i 275,i 2,i 0,i 0,i 3,.ref 539,(.bool true),i 181,.ref 540,.none,.ref 541,.ref 542,.ref 543,i 880,i 275,s z2 881]
def YY:Obj:=fO "has_address" "Shape.has_address" (oC (AC 32) 5) (s bH 801) (.ref 544)
def ZY:Obj:=tO [s kE 886,s FP 887]
def aZ:Obj:=cO [s 111490731565681 883,s 31381851070904111347232041300 884,s z2 885,i 278,i 2,i 0,i 0,i 3,.ref 546,(.bool true),i 181,.ref 547,.none,.ref 548,.ref 549,.ref 550,i 888,i 278,s z2 889]
def bZ:Obj:=fO "parted" "Shape.parted" (oC (AC 32) 6) (s bH 801) (.ref 551)
def cZ:Obj:=tO [s kE 894,s iI 895,s 7958627 896]
def dZ:Obj:=cO [s FP 891,s 9226490968170112016115440970068 892,s z2 893,i 281,i 3,i 0,i 0,i 3,.ref 553,(.bool true),i 181,.ref 554,.none,.ref 555,.ref 556,.ref 557,i 897,i 281,s z2 898]
def eZ:Obj:=fO "address" "Shape.address" (oC (AC 32) 7) (s bH 801) (.ref 558)
def fZ:Obj:=tO [s kE 903,s iI 904]
def gZ:Obj:=cO [s 500118746484 900,s 140770912519198489320778068 901,s z2 902,i 284,i 2,i 0,i 0,i 3,.ref 560,(.bool true),i 181,.ref 561,.none,.ref 562,.ref 563,.ref 564,i 905,i 284,s z2 906]
def hZ:Obj:=fO "steps" "Shape.steps" (oC (AC 32) 8) (s bH 801) (.ref 565)
def iZ:Obj:=tO [s kE 911,s 500118746484 912]
def jZ:Obj:=cO [s 29115481938485873 908,s 8195279600554836563607700007252 909,s z2 910,i 287,i 2,i 0,i 0,i 3,.ref 567,(.bool true),i 181,.ref 568,.none,.ref 569,.ref 570,.ref 571,i 913,i 287,s z2 914]
def kZ:Obj:=fO "page_of" "Shape.page_of" (oC (AC 32) 9) (s bH 801) (.ref 572)
def lZ:Obj:=tO [s kE 919,s DI 920,s jI 921]
def mZ:Obj:=cO [s 1953852007 916,s 549960448218510519331156 917,s z2 918,i 290,i 3,i 0,i 0,i 3,.ref 574,(.bool true),i 181,.ref 575,.none,.ref 576,.ref 577,.ref 578,i 922,i 290,s z2 923]
def nZ:Obj:=fO "fits" "Shape.fits" (oC (AC 32) 10) (s bH 801) (.ref 579)
def oZ:Obj:=⟨(.type "tuple"),none,.seq #[(.str "boxes" 925),(.str "fan" 926),(.str "grain" 927),(.str "levels" 928),(.str "pages" 929),(.str "ways" 930)] 0, #[]⟩
def pZ (P:Params):Obj:=dO 4 [e P yF 830 (s bH 801),e P zF 834 (.int (252) 833),e P tK 844 (.ref 510),e P 483958001635892750870900 851 (.ref 517),e P 554573001519589315076721 858 (.ref 524),e P 7379256228535624297 866 (.ref 531),e P 483606936193276347574628 874 (.ref 538),e P 140785079470369141693899369 882 (.ref 545),e P 111490731565681 890 (.ref 552),e P FP 899 (.ref 559),e P 500118746484 907 (.ref 566),e P 29115481938485873 915 (.ref 573),e P 1953852007 924 (.ref 580),e P AF 931 (.ref 581),e P uN 933 (.ref 584),e P sK 935 (.ref 585),e P z1 936 .none]
def qZ:Obj:=⟨(.type "type"),none,.cls {name:=(Str.ofString "Shape"),bases:=[(.type "object")],mro:=[.ref 583,(.type "object")],ns:=582,qualname:=(Str.ofString "Shape"),hasDict:=true,slotNames:=[],subclasses:=[],abstract:=false,collection:=none,hasDel:=false}, #[none,none,(some (s 439988939092 823)),(some (s 439988939092 831)),(some (.builtin "object.__new__")),(some (.bool true))]⟩
def rZ:Obj:=⟨(.type "getset_descriptor"),none,.fields ⟨[s uN 932,.ref 583,(.builtin "function.__dict__"),(.builtin "function.__dict__#set")]⟩, #[]⟩
def sZ:Obj:=⟨(.type "getset_descriptor"),none,.fields ⟨[s sK 934,.ref 583,(.builtin "ExceptionGroup.__weakref__"),.none]⟩, #[]⟩
def tZ:Obj:=tO [s 141979911977246466280418656 944,s GP 945]
def uZ:Obj:=cO [s NW 941,s NW 942,s z2 943,i 293,i 2,i 0,i 0,i 3,.ref 588,(.bool true),i 181,.ref 589,.none,.ref 590,.ref 591,.ref 592,i 946,i 293,s z2 947]
def vZ:Obj:=fO "_law_cell_at" "_law_cell_at" (AC 34) (s z0 939) (.ref 593)
def wZ:Obj:=tO [s zM 952,s GP 953,s 2258528875839108574560 954,s 483718193700061355076960 955,s 478849331591939277090144 956]
def xZ:Obj:=cO [s 8748926586736242016 949,s 8748926586736242016 950,s z2 951,i 297,i 3,i 0,i 0,i 3,.ref 595,(.bool true),i 181,.ref 596,.none,.ref 597,.ref 598,.ref 599,i 957,i 297,s z2 958]
def yZ:Obj:=fO "_law_mix" "_law_mix" (AC 35) (s z0 939) (.ref 600)
def zZ:Obj:=tO [s zM 963]
def AZ:Obj:=cO [s OW 960,s OW 961,s z2 962,i 303,i 1,i 0,i 0,i 3,.ref 602,(.bool true),i 181,.ref 603,.none,.ref 604,.ref 605,.ref 606,i 964,i 303,s z2 965]
def BZ:Obj:=fO "_law_value" "_law_value" (AC 36) (s z0 939) (.ref 607)
def CZ:Obj:=tO [s 549684036209146119482720 970,s 2258528875839108574560 971,s GP 972]
def DZ:Obj:=cO [s QW 967,s QW 968,s z2 969,i 307,i 1,i 0,i 0,i 3,.ref 609,(.bool true),i 181,.ref 610,.none,.ref 611,.ref 612,.ref 613,i 973,i 307,s z2 974]
def EZ:Obj:=fO "_law_doubled" "_law_doubled" (AC 37) (s z0 939) (.ref 614)
def FZ:Obj:=tO [s 479015137796973828140384 979,s aX 980,s GP 981]
def GZ:Obj:=cO [s 1889380072283105815904 976,s 1889380072283105815904 977,s z2 978,i 312,i 2,i 0,i 0,i 3,.ref 616,(.bool true),i 181,.ref 617,.none,.ref 618,.ref 619,.ref 620,i 982,i 312,s z2 983]
def HZ:Obj:=fO "_law_like" "_law_like" (AC 38) (s z0 939) (.ref 621)
def IZ:Obj:=tO [s 112564522610016 988,s 2077948713125042240586748547722592 989]
def JZ:Obj:=cO [s 1871439432312149929312 985,s 1871439432312149929312 986,s z2 987,i 331,i 1,i 0,i 0,i 3,.ref 623,(.bool true),i 181,.ref 624,.none,.ref 625,.ref 626,.ref 627,i 990,i 331,s z2 991]
def KZ:Obj:=fO "_law_word" "_law_word" (AC 39) (s z0 939) (.ref 628)
def LZ:Obj:=tO [s HP 996,s rT 997]
def MZ:Obj:=cO [s 8818738978030251360 993,s 8818738978030251360 994,s z2 995,i 350,i 2,i 0,i 0,i 3,.ref 630,(.bool true),i 181,.ref 631,.none,.ref 632,.ref 633,.ref 634,i 998,i 350,s z2 999]
def NZ:Obj:=fO "_law_say" "_law_say" (AC 40) (s z0 939) (.ref 635)
def OZ:Obj:=tO [s HP 1004,s rT 1005,s 479015137796973828140384 1006,s 112564522610016 1007]
def PZ:Obj:=cO [s RW 1001,s RW 1002,s z2 1003,i 368,i 2,i 0,i 0,i 3,.ref 637,(.bool true),i 181,.ref 638,.none,.ref 639,.ref 640,.ref 641,i 1008,i 368,s z2 1009]
def QZ:Obj:=fO "_law_answer" "_law_answer" (AC 41) (s z0 939) (.ref 642)
def RZ:Obj:=tO [s 36039771124100298179774410080 1014,s 139509984824270207699807584 1015]
def SZ:Obj:=cO [s SW 1011,s SW 1012,s z2 1013,i 374,i 1,i 0,i 0,i 3,.ref 644,(.bool true),i 181,.ref 645,.none,.ref 646,.ref 647,.ref 648,i 1016,i 374,s z2 1017]
def TZ:Obj:=fO "_law_least" "_law_least" (AC 42) (s z0 939) (.ref 649)
def UZ:Obj:=cO [s TW 1019,s TW 1020,s z2 1021,i 379,i 4,i 0,i 0,i 3,.ref 651,(.bool true),i 181,.ref 652,.none,.none,.none,.ref 653,i 1022,i 379,s z2 1023]
def VZ:Obj:=fO "_law_due_pages" "_law_due_pages" (AC 43) (s z0 939) (.ref 654)
def WZ:Obj:=tO [s IP 1028,s tT 1029,s JP 1030,s 7381241873922420064 1031]
def XZ:Obj:=cO [s 1870500991441261718880 1025,s 1870500991441261718880 1026,s z2 1027,i 412,i 2,i 0,i 0,i 3,.ref 656,(.bool true),i 181,.ref 657,.none,.ref 658,.ref 659,.ref 660,i 1032,i 412,s z2 1033]
def YZ:Obj:=fO "_law_tied" "_law_tied" (AC 44) (s z0 939) (.ref 661)
def ZZ:Obj:=tO [s IP 1038,s uT 1039,s KP 1040,s rT 1041,s LP 1042,s tT 1043]
def b0:Obj:=cO [s 7383200104131489120 1035,s 7383200104131489120 1036,s z2 1037,i 418,i 4,i 0,i 0,i 3,.ref 663,(.bool true),i 181,.ref 664,.none,.ref 665,.ref 666,.ref 667,i 1044,i 418,s z2 1045]
def i0:Obj:=fO "_law_due" "_law_due" (AC 45) (s z0 939) (.ref 668)
def l0:Obj:=tO [s 2166655442341238828384 1050,s vT 1051,s 7381241873922420064 1052]
def o0:Obj:=cO [s UW 1047,s UW 1048,s z2 1049,i 446,i 3,i 0,i 0,i 3,.ref 670,(.bool true),i 181,.ref 671,.none,.ref 672,.ref 673,.ref 674,i 1053,i 446,s z2 1054]
def p0:Obj:=fO "_law_goes_on" "_law_goes_on" (AC 46) (s z0 939) (.ref 675)
def t0:Obj:=tO [s JP 1059,s 2148500875890424704352 1060,s vT 1061,s 7381241873922420064 1062,s 2166655442341238828384 1063]
def u0:Obj:=cO [s VW 1056,s VW 1057,s z2 1058,i 452,i 1,i 0,i 0,i 3,.ref 677,(.bool true),i 181,.ref 678,.none,.ref 679,.ref 680,.ref 681,i 1064,i 452,s z2 1065]
def x0:Obj:=fO "_law_told_pages" "_law_told_pages" (AC 47) (s z0 939) (.ref 682)
def S0:Obj:=tO [s 36039771124100298179774410080 1070,s zM 1071,s 1889886165390743203168 1072]
def T0:Obj:=cO [s 1999484080371106213216 1067,s 1999484080371106213216 1068,s z2 1069,i 462,i 2,i 0,i 0,i 3,.ref 684,(.bool true),i 181,.ref 685,.none,.ref 686,.ref 687,.ref 688,i 1073,i 462,s z2 1074]
def U0:Obj:=fO "_law_pick" "_law_pick" (AC 48) (s z0 939) (.ref 689)
def V0:Obj:=tO [s JP 1079,s zM 1080,s KP 1081,s 8818743376076762464 1082,s 2258528875839108574560 1083]
def W0:Obj:=cO [s WW 1076,s WW 1077,s z2 1078,i 467,i 3,i 0,i 0,i 3,.ref 691,(.bool true),i 181,.ref 692,.none,.ref 693,.ref 694,.ref 695,i 1084,i 467,s z2 1085]
def X0:Obj:=fO "_law_stretch" "_law_stretch" (AC 49) (s z0 939) (.ref 696)
def Y0:Obj:=tO [s IP 1090,s uT 1091,s KP 1092,s zM 1093,s 1871149499891998420320 1094,s LP 1095,s JP 1096,s 2166583389145247411552 1097,s 140789856385873457908444512 1098,s tT 1099]
def Z0:Obj:=cO [s 1870499847949168831840 1087,s 1870499847949168831840 1088,s z2 1089,i 479,i 4,i 0,i 0,i 3,.ref 698,(.bool true),i 181,.ref 699,.none,.ref 700,.ref 701,.ref 702,i 1100,i 479,s z2 1101]
def j1:Obj:=fO "_law_deed" "_law_deed" (AC 50) (s z0 939) (.ref 703)
def S1:Obj:=tO [s HP 1106,s IP 1107,s uT 1108,s KP 1109,s zM 1110,s tT 1111,s LP 1112,s JP 1113,s GP 1114,s 1871007083449387478368 1115,s vT 1116,s aX 1117]
def T1:Obj:=cO [s YW 1103,s YW 1104,s z2 1105,i 506,i 5,i 0,i 0,i 3,.ref 705,(.bool true),i 181,.ref 706,.none,.ref 707,.ref 708,.ref 709,i 1118,i 506,s z2 1119]
def U1:Obj:=fO "_law_told_all" "_law_told_all" (AC 51) (s z0 939) (.ref 710)
def V1:Obj:=tO [s HP 1124,s LP 1125,s vT 1126,s 2165360388068021005664 1127,s 2077948713125042240586748547722592 1128,s 112564522610016 1129]
def W1:Obj:=cO [s ZW 1121,s ZW 1122,s z2 1123,i 526,i 3,i 0,i 0,i 3,.ref 712,(.bool true),i 181,.ref 713,.none,.ref 714,.ref 715,.ref 716,i 1130,i 526,s z2 1131]
def X1:Obj:=fO "_law_no_task" "_law_no_task" (AC 52) (s z0 939) (.ref 717)
def Y1:Obj:=tO [s 141979911977246466280418656 1136,s 8026091149961882976 1137,s 140752023193509693210389856 1138,s KP 1139,s HP 1140,s IP 1141,s uT 1142,s zM 1143,s rT 1144,s aX 1145,s LP 1146,s 9142932414426196143300128435552 1147]
def Z1:Obj:=cO [s 7889517 1133,s 7889517 1134,s z2 1135,i 541,i 1,i 0,i 0,i 3,.ref 719,(.bool true),i 181,.ref 720,.none,.ref 721,.ref 722,.ref 723,i 1148,i 541,s z2 1149]
def j2:Obj:=fO "law" "law" (AC 53) (s z0 939) (.ref 724)
noncomputable def Kf:Params->W.Frag:=λP=>(nat_lit 2,o2)::(nat_lit 3,o3 P)::(nat_lit 15,DC)::(nat_lit 17,Ue)::(nat_lit 18,DC)::(nat_lit 20,Ve)::(nat_lit 21,We)::(nat_lit 22,Xe)::(nat_lit 29,XF)::(nat_lit 30,Ye P)::(nat_lit 31,Ze)::(nat_lit 32,af)::(nat_lit 35,qG)::(nat_lit 42,XF)::(nat_lit 43,bf P)::(nat_lit 44,cf)::(nat_lit 47,qG)::(nat_lit 54,XF)::(nat_lit 55,df P)::(nat_lit 56,gf)::(nat_lit 59,qG)::(nat_lit 66,XF)::(nat_lit 67,jf P)::(nat_lit 68,lf)::(nat_lit 71,qG)::(nat_lit 78,XF)::(nat_lit 79,mf P)::(nat_lit 80,pf)::(nat_lit 83,qG)::(nat_lit 90,XF)::(nat_lit 91,qf P)::(nat_lit 92,rf)::(nat_lit 95,qG)::(nat_lit 102,XF)::(nat_lit 103,MP P)::(nat_lit 104,NP)::(nat_lit 107,qG)::(nat_lit 114,XF)::(nat_lit 115,OP P)::(nat_lit 116,PP)::(nat_lit 119,qG)::(nat_lit 126,XF)::(nat_lit 127,QP P)::(nat_lit 128,RP)::(nat_lit 131,qG)::(nat_lit 138,XF)::(nat_lit 139,UP P)::(nat_lit 140,VP)::(nat_lit 143,DC)::(nat_lit 145,WP)::(nat_lit 146,DC)::(nat_lit 148,ZP)::(nat_lit 149,aQ)::(nat_lit 150,DC)::(nat_lit 152,bQ)::(nat_lit 153,DC)::(nat_lit 155,cQ)::(nat_lit 156,dQ)::(nat_lit 157,DC)::(nat_lit 159,eQ)::(nat_lit 160,DC)::(nat_lit 162,fQ)::(nat_lit 163,gQ)::(nat_lit 164,DC)::(nat_lit 166,iQ)::(nat_lit 167,DC)::(nat_lit 169,jQ)::(nat_lit 170,kQ)::(nat_lit 171,DC)::(nat_lit 173,lQ)::(nat_lit 174,DC)::(nat_lit 176,mQ)::(nat_lit 177,nQ)::(nat_lit 178,DC)::(nat_lit 180,oQ)::(nat_lit 181,DC)::(nat_lit 183,pQ)::(nat_lit 184,qQ)::(nat_lit 185,DC)::(nat_lit 187,rQ)::(nat_lit 188,DC)::(nat_lit 190,sQ)::(nat_lit 191,tQ)::(nat_lit 192,DC)::(nat_lit 194,uQ)::(nat_lit 195,DC)::(nat_lit 197,vQ)::(nat_lit 198,wQ)::(nat_lit 206,DC)::(nat_lit 208,xQ)::(nat_lit 209,DC)::(nat_lit 211,yQ)::(nat_lit 212,zQ)::(nat_lit 213,AQ)::(nat_lit 214,DC)::(nat_lit 216,BQ)::(nat_lit 217,DC)::(nat_lit 219,CQ)::(nat_lit 220,DQ)::(nat_lit 221,DC)::(nat_lit 223,EQ)::(nat_lit 224,DC)::(nat_lit 226,FQ)::(nat_lit 227,GQ)::(nat_lit 228,DC)::(nat_lit 231,HQ)::(nat_lit 232,IQ)::(nat_lit 233,DC)::(nat_lit 235,JQ)::(nat_lit 236,DC)::(nat_lit 238,KQ)::(nat_lit 239,LQ)::(nat_lit 240,DC)::(nat_lit 242,MQ)::(nat_lit 243,DC)::(nat_lit 245,NQ)::(nat_lit 246,OQ)::(nat_lit 247,DC)::(nat_lit 249,PQ)::(nat_lit 250,DC)::(nat_lit 252,QQ)::(nat_lit 253,RQ)::(nat_lit 254,DC)::(nat_lit 256,SQ)::(nat_lit 257,DC)::(nat_lit 259,TQ)::(nat_lit 260,UQ)::(nat_lit 261,DC)::(nat_lit 264,VQ)::(nat_lit 265,WQ)::(nat_lit 266,DC)::(nat_lit 269,XQ)::(nat_lit 270,YQ)::(nat_lit 271,DC)::(nat_lit 273,ZQ)::(nat_lit 274,DC)::(nat_lit 276,aR)::(nat_lit 277,bR)::(nat_lit 278,DC)::(nat_lit 280,cR)::(nat_lit 281,DC)::(nat_lit 283,dR)::(nat_lit 284,eR)::(nat_lit 285,DC)::(nat_lit 287,fR)::(nat_lit 288,DC)::(nat_lit 290,gR)::(nat_lit 291,iR)::(nat_lit 292,DC)::(nat_lit 295,jR)::(nat_lit 296,kR)::(nat_lit 297,DC)::(nat_lit 299,lR)::(nat_lit 300,DC)::(nat_lit 302,mR)::(nat_lit 303,nR)::(nat_lit 304,DC)::(nat_lit 307,pR)::(nat_lit 308,qR)::(nat_lit 309,rR)::(nat_lit 310,sR P)::(nat_lit 311,tR)::(nat_lit 312,vR)::(nat_lit 313,wR)::(nat_lit 316,DC)::(nat_lit 318,bX)::(nat_lit 319,DC)::(nat_lit 321,cX)::(nat_lit 322,dX)::(nat_lit 330,DC)::(nat_lit 332,eX)::(nat_lit 333,DC)::(nat_lit 335,fX)::(nat_lit 336,gX)::(nat_lit 337,DC)::(nat_lit 339,iX)::(nat_lit 340,DC)::(nat_lit 342,jX)::(nat_lit 343,kX)::(nat_lit 344,DC)::(nat_lit 346,lX)::(nat_lit 347,DC)::(nat_lit 349,mX)::(nat_lit 350,nX)::(nat_lit 351,DC)::(nat_lit 353,pX)::(nat_lit 354,DC)::(nat_lit 356,qX)::(nat_lit 357,rX)::(nat_lit 358,DC)::(nat_lit 360,sX)::(nat_lit 361,DC)::(nat_lit 363,tX)::(nat_lit 364,uX)::(nat_lit 365,DC)::(nat_lit 368,vX)::(nat_lit 369,wX)::(nat_lit 370,xX)::(nat_lit 371,DC)::(nat_lit 373,yX)::(nat_lit 374,DC)::(nat_lit 376,AX)::(nat_lit 377,BX)::(nat_lit 378,DC)::(nat_lit 380,DX)::(nat_lit 381,DC)::(nat_lit 383,EX)::(nat_lit 384,FX)::(nat_lit 385,DC)::(nat_lit 387,GX)::(nat_lit 388,DC)::(nat_lit 390,HX)::(nat_lit 391,IX)::(nat_lit 392,DC)::(nat_lit 394,JX)::(nat_lit 395,DC)::(nat_lit 397,LX)::(nat_lit 398,MX)::(nat_lit 399,DC)::(nat_lit 401,NX)::(nat_lit 402,DC)::(nat_lit 404,OX)::(nat_lit 405,PX)::(nat_lit 406,DC)::(nat_lit 408,QX)::(nat_lit 409,DC)::(nat_lit 411,RX)::(nat_lit 412,SX)::(nat_lit 413,DC)::(nat_lit 415,TX)::(nat_lit 416,DC)::(nat_lit 418,UX)::(nat_lit 419,VX)::(nat_lit 420,DC)::(nat_lit 422,WX)::(nat_lit 423,DC)::(nat_lit 425,XX)::(nat_lit 426,YX)::(nat_lit 427,DC)::(nat_lit 429,ZX)::(nat_lit 430,DC)::(nat_lit 432,aY)::(nat_lit 433,bY)::(nat_lit 434,DC)::(nat_lit 436,cY)::(nat_lit 437,DC)::(nat_lit 439,dY)::(nat_lit 440,eY)::(nat_lit 441,DC)::(nat_lit 443,fY)::(nat_lit 444,DC)::(nat_lit 446,gY)::(nat_lit 447,iY)::(nat_lit 448,DC)::(nat_lit 450,jY)::(nat_lit 451,DC)::(nat_lit 453,kY)::(nat_lit 454,lY)::(nat_lit 455,DC)::(nat_lit 457,mY)::(nat_lit 458,DC)::(nat_lit 460,nY)::(nat_lit 461,oY)::(nat_lit 462,DC)::(nat_lit 464,pY)::(nat_lit 465,DC)::(nat_lit 467,qY)::(nat_lit 468,rY)::(nat_lit 469,DC)::(nat_lit 471,sY)::(nat_lit 472,DC)::(nat_lit 474,tY)::(nat_lit 475,uY)::(nat_lit 476,vY)::(nat_lit 477,wY P)::(nat_lit 478,xY)::(nat_lit 479,yY)::(nat_lit 480,AY)::(nat_lit 483,DC)::(nat_lit 485,BY)::(nat_lit 486,DC)::(nat_lit 488,CY)::(nat_lit 489,DY)::(nat_lit 490,DC)::(nat_lit 492,EY)::(nat_lit 493,DC)::(nat_lit 495,FY)::(nat_lit 496,GY)::(nat_lit 504,DC)::(nat_lit 506,HY)::(nat_lit 507,DC)::(nat_lit 509,IY)::(nat_lit 510,JY)::(nat_lit 511,DC)::(nat_lit 513,KY)::(nat_lit 514,DC)::(nat_lit 516,LY)::(nat_lit 517,MY)::(nat_lit 518,DC)::(nat_lit 520,NY)::(nat_lit 521,DC)::(nat_lit 523,OY)::(nat_lit 524,PY)::(nat_lit 525,DC)::(nat_lit 527,QY)::(nat_lit 528,DC)::(nat_lit 530,RY)::(nat_lit 531,SY)::(nat_lit 532,DC)::(nat_lit 534,TY)::(nat_lit 535,DC)::(nat_lit 537,UY)::(nat_lit 538,VY)::(nat_lit 539,DC)::(nat_lit 541,WY)::(nat_lit 542,DC)::(nat_lit 544,XY)::(nat_lit 545,YY)::(nat_lit 546,DC)::(nat_lit 548,ZY)::(nat_lit 549,DC)::(nat_lit 551,aZ)::(nat_lit 552,bZ)::(nat_lit 553,DC)::(nat_lit 555,cZ)::(nat_lit 556,DC)::(nat_lit 558,dZ)::(nat_lit 559,eZ)::(nat_lit 560,DC)::(nat_lit 562,fZ)::(nat_lit 563,DC)::(nat_lit 565,gZ)::(nat_lit 566,hZ)::(nat_lit 567,DC)::(nat_lit 569,iZ)::(nat_lit 570,DC)::(nat_lit 572,jZ)::(nat_lit 573,kZ)::(nat_lit 574,DC)::(nat_lit 576,lZ)::(nat_lit 577,DC)::(nat_lit 579,mZ)::(nat_lit 580,nZ)::(nat_lit 581,oZ)::(nat_lit 582,pZ P)::(nat_lit 583,qZ)::(nat_lit 584,rZ)::(nat_lit 585,sZ)::(nat_lit 588,DC)::(nat_lit 590,tZ)::(nat_lit 591,DC)::(nat_lit 593,uZ)::(nat_lit 594,vZ)::(nat_lit 595,DC)::(nat_lit 597,wZ)::(nat_lit 598,DC)::(nat_lit 600,xZ)::(nat_lit 601,yZ)::(nat_lit 602,DC)::(nat_lit 604,zZ)::(nat_lit 605,DC)::(nat_lit 607,AZ)::(nat_lit 608,BZ)::(nat_lit 609,DC)::(nat_lit 611,CZ)::(nat_lit 612,DC)::(nat_lit 614,DZ)::(nat_lit 615,EZ)::(nat_lit 616,DC)::(nat_lit 618,FZ)::(nat_lit 619,DC)::(nat_lit 621,GZ)::(nat_lit 622,HZ)::(nat_lit 623,DC)::(nat_lit 625,IZ)::(nat_lit 626,DC)::(nat_lit 628,JZ)::(nat_lit 629,KZ)::(nat_lit 630,DC)::(nat_lit 632,LZ)::(nat_lit 633,DC)::(nat_lit 635,MZ)::(nat_lit 636,NZ)::(nat_lit 637,DC)::(nat_lit 639,OZ)::(nat_lit 640,DC)::(nat_lit 642,PZ)::(nat_lit 643,QZ)::(nat_lit 644,DC)::(nat_lit 646,RZ)::(nat_lit 647,DC)::(nat_lit 649,SZ)::(nat_lit 650,TZ)::(nat_lit 651,DC)::(nat_lit 654,UZ)::(nat_lit 655,VZ)::(nat_lit 656,DC)::(nat_lit 658,WZ)::(nat_lit 659,DC)::(nat_lit 661,XZ)::(nat_lit 662,YZ)::(nat_lit 663,DC)::(nat_lit 665,ZZ)::(nat_lit 666,DC)::(nat_lit 668,b0)::(nat_lit 669,i0)::(nat_lit 670,DC)::(nat_lit 672,l0)::(nat_lit 673,DC)::(nat_lit 675,o0)::(nat_lit 676,p0)::(nat_lit 677,DC)::(nat_lit 679,t0)::(nat_lit 680,DC)::(nat_lit 682,u0)::(nat_lit 683,x0)::(nat_lit 684,DC)::(nat_lit 686,S0)::(nat_lit 687,DC)::(nat_lit 689,T0)::(nat_lit 690,U0)::(nat_lit 691,DC)::(nat_lit 693,V0)::(nat_lit 694,DC)::(nat_lit 696,W0)::(nat_lit 697,X0)::(nat_lit 698,DC)::(nat_lit 700,Y0)::(nat_lit 701,DC)::(nat_lit 703,Z0)::(nat_lit 704,j1)::(nat_lit 705,DC)::(nat_lit 707,S1)::(nat_lit 708,DC)::(nat_lit 710,T1)::(nat_lit 711,U1)::(nat_lit 712,DC)::(nat_lit 714,V1)::(nat_lit 715,DC)::(nat_lit 717,W1)::(nat_lit 718,X1)::(nat_lit 719,DC)::(nat_lit 721,Y1)::(nat_lit 722,DC)::(nat_lit 724,Z1)::(nat_lit 725,j2)::[]
noncomputable def Kc (P:Params):List (Option Obj):=(Kf P).map λp=>some p.2
noncomputable def EI:List Addr:=2::3::15::17::18::20::21::22::29::30::31::32::35::42::43::44::47::54::55::56::59::66::67::68::71::78::79::80::83::90::91::92::95::102::103::104::107::114::115::116::119::126::127::128::131::138::139::140::143::145::146::148::149::150::152::153::155::156::157::159::160::162::163::164::166::167::169::170::171::173::174::176::177::178::180::181::183::184::185::187::188::190::191::192::194::195::197::198::206::208::209::211::212::213::214::216::217::219::220::221::223::224::226::227::228::231::232::233::235::236::238::239::240::242::243::245::246::247::249::250::252::253::254::256::257::259::260::261::264::265::266::269::270::271::273::274::276::277::278::280::281::283::284::285::287::288::290::291::292::295::296::297::299::300::302::303::304::307::308::309::310::311::312::313::316::318::319::321::322::330::332::333::335::336::337::339::340::342::343::344::346::347::349::350::351::353::354::356::357::358::360::361::363::364::365::368::369::370::371::373::374::376::377::378::380::381::383::384::385::387::388::390::391::392::394::395::397::398::399::401::402::404::405::406::408::409::411::412::413::415::416::418::419::420::422::423::425::426::427::429::430::432::433::434::436::437::439::440::441::443::444::446::447::448::450::451::453::454::455::457::458::460::461::462::464::465::467::468::469::471::472::474::475::476::477::478::479::480::483::485::486::488::489::490::492::493::495::496::504::506::507::509::510::511::513::514::516::517::518::520::521::523::524::525::527::528::530::531::532::534::535::537::538::539::541::542::544::545::546::548::549::551::552::553::555::556::558::559::560::562::563::565::566::567::569::570::572::573::574::576::577::579::580::581::582::583::584::585::588::590::591::593::594::595::597::598::600::601::602::604::605::607::608::609::611::612::614::615::616::618::619::621::622::623::625::626::628::629::630::632::633::635::636::637::639::640::642::643::644::646::647::649::650::651::654::655::656::658::659::661::662::663::665::666::668::669::670::672::673::675::676::677::679::680::682::683::684::686::687::689::690::691::693::694::696::697::698::700::701::703::704::705::707::708::710::711::712::714::715::717::718::719::721::722::724::725::[]
noncomputable def _root_.PySem.W.Fast.tw2978598463251682248:Params->W.Frag:=Kf
theorem _root_.PySem.W.Fast.te2978598463251682248:@Eq (Params->W.Frag) Kf _root_.PySem.W.Fast.tw2978598463251682248:=rfl
noncomputable def _root_.PySem.W.Fast.tw178197174607172993:List Addr:=EI
theorem _root_.PySem.W.Fast.te178197174607172993:@Eq (List Addr) EI _root_.PySem.W.Fast.tw178197174607172993:=rfl
theorem xR (P:Params):EI=(Kf P).map (·.1):=by kernel_rfl
theorem yR (P:Params):Kc P=(Kf P).map λp=>some p.2:=rfl
noncomputable def vw:Program:=W.view PySem.Challenge.pw_frameland_k47_house_any_row [0,2,3,4,5,6,7,8,9,10,11,13,14,16,17,18,19,20,21,22,23,25,26,27,29,30,31,32,34,35,36,37,38,39,40,41,42,43,44,45,46,47,48,49,50,51,52,53]
def zE:Obj:=⟨.none,none,.fields ⟨[]⟩, #[]⟩
def S2:Obj:=cO [s 4568459227289382461 182,s 4568459227289382461 183,s z2 184,i 1,i 0,i 0,i 0,i 0,.ref 11,(.bool false),i 181,.ref 12,.none,.none,.none,.none,i 185,i 1,s z2 186]
def T2:Obj:=⟨(.type "frame"),none,.plain, #[(some (.ref 13)),(some (.ref 3)),(some (.ref 3)),none,(some (s 6944673128113922144 164)),none,(some (.ref 0))]⟩
section
variable (P:Params)
def rn:W.BT:=.node (W.boot_o_7 P) .nil .nil
def vn (P:Params):W.BT:=.node DC .nil .nil
def wn:W.BT:=.node (W.boot_o_9 P) .nil .nil
def xn (P:Params):W.BT:=.node S2 .nil .nil
def yn:W.BT:=.node (W.boot_o_8 P) .nil .nil
def zn (P:Params):W.BT:=.node zE .nil .nil
def Sn:W.BT:=.node (W.boot_o_10 P) .nil .nil
def Tn (P:Params):W.BT:=.node T2 .nil .nil
def Vn:W.BT:=.node (W.boot_o_0 P) (.node (W.boot_o_1 P) (.node (W.boot_o_3 P) (rn P) (vn P)) (.node (W.boot_o_5 P) (wn P) (xn P))) (.node (W.boot_o_2 P) (.node (W.boot_o_4 P) (yn P) (zn P)) (.node (W.boot_o_6 P) (Sn P) (Tn P)))
end
noncomputable def vN (w:World) (os:OsState):W.SharedT:=⟨Vn w.params,15,(W.boot_heap w.params).life, #[],W.boot_drawn,187,os⟩
noncomputable def _root_.PySem.W.Fast.tw14493010579495800908:World->OsState->W.SharedT:=vN
theorem _root_.PySem.W.Fast.te14493010579495800908:@Eq (World->OsState->W.SharedT) vN _root_.PySem.W.Fast.tw14493010579495800908:=rfl
section
variable (P:Params)
def Wn:W.BT:=.node (W.boot_o_7 P) .nil .nil
def Xn (P:Params):W.BT:=.node DC .nil .nil
def Yn:W.BT:=.node (W.boot_o_9 P) .nil .nil
def Zn (P:Params):W.BT:=.node S2 .nil .nil
def ao:W.BT:=.node (W.boot_o_8 P) .nil .nil
def bo (P:Params):W.BT:=.node zE .nil .nil
def eo:W.BT:=.node (W.boot_o_10 P) .nil .nil
def fo (P:Params):W.BT:=.node T2 .nil .nil
def io:W.BT:=.node (W.boot_o_0 P) (.node (W.boot_o_1 P) (.node (W.boot_o_3 P) (Wn P) (Xn P)) (.node (W.boot_o_5 P) (Yn P) (Zn P))) (.node (W.boot_o_2 P) (.node (W.boot_o_4 P) (ao P) (bo P)) (.node (W.boot_o_6 P) (eo P) (fo P)))
end
noncomputable def wN (w:World) (os:OsState):W.SharedT:=⟨io w.params,15,(W.boot_heap w.params).life, #[],W.boot_drawn,187,os⟩
noncomputable def _root_.PySem.W.Fast.tw4081698580280887237:World->OsState->W.SharedT:=wN
theorem _root_.PySem.W.Fast.te4081698580280887237:@Eq (World->OsState->W.SharedT) wN _root_.PySem.W.Fast.tw4081698580280887237:=rfl
def AM (P:Params):Obj:=dO 30 [e P 6944663249689206880 165 (s oF 376),e P z1 166 .none,e P 116512114954948911152848992 167 .none,e P 455126385231797511086176 168 (.builtin "__main__.__loader__#opaque"),e P 6944661016558198880 169 .none,e P 500416834696884185539869749159288928 170 (.ref 6),e P 29827167671303893903271485536 171 (.ref 4),e P 6944663245527933024 173 (s z2 172),e P 455125376429887381069920 174 .none,e P z3 193 (.ref 21),e P z4 213 (.ref 31),e P z5 229 (.ref 44),e P z6 245 (.ref 56),e P z7 261 (.ref 68),e P z8 277 (.ref 80),e P z9 293 (.ref 92),e P uM 309 (.ref 104),e P vM 325 (.ref 116),e P wM 341 (.ref 128),e P xM 357 (.ref 140),e P gN 366 (.ref 149),e P iN 375 (.ref 156),e P 101952521820057743536705614 379 (.int (3) 378),e P jN 386 (.ref 163),e P kN 393 (.ref 170),e P lN 402 (.ref 177),e P nN 412 (.ref 184),e P pN 420 (.ref 191),e P qN 430 (.ref 198),e P yM 579 (.ref 311)]
def jo:Obj:=⟨.none,none,.fields ⟨[i 1,i 0,.ref 20,i 5,i 0,.ref 27,i 7,i 0,.ref 40,i 9,i 0,.ref 52,i 11,i 0,.ref 64,i 13,i 0,.ref 76,i 15,i 0,.ref 88,i 17,i 0,.ref 100,i 19,i 0,.ref 112,i 21,i 0,.ref 124,i 23,i 0,.ref 136,i 26,i 0,.ref 148,i 28,i 0,.ref 155,i 32,i 0,.ref 162,i 35,i 0,.ref 169,i 37,i 0,.ref 176,i 42,i 0,.ref 183,i 45,i 0,.ref 190,i 47,i 0,.ref 197,i 56,i 0,.ref 204]⟩, #[]⟩
def ko:Obj:=⟨.none,none,.func {name:=(S z3),qualname:=(S z3),params:=BC (AC 0),body:=.stmts (zC (AC 0)),scope:=mC (AC 0),globals:=0,closure:=[],defaults:=.none,kwdefaults:=.none,doc:=.none,pyModule:=.none,annotations:=none,code:=.none,closureTuple:=.none,builtins:=0}, #[]⟩
def mI:Obj:=⟨(.type "builtin_function_or_method"),none,.fields ⟨[(.builtin "type.__prepare__"),(.type "type")]⟩, #[]⟩
def mo (P:Params):Obj:=dO 4 [e P yF 203 (s WE 194),e P lI 205 (s z4 204),e P zF 207 (.int (5) 206),e P AF 208 (.ref 29)]
def oo:Obj:=cO [s z4 198,s z4 199,s z2 200,i 5,i 0,i 0,i 0,i 0,.ref 25,(.bool false),i 181,.ref 26,.none,.none,.none,.none,i 201,i 5,s z2 202]
def qo:Obj:=⟨(.type "frame"),none,.plain, #[(some (.ref 27)),(some (.ref 3)),(some (.ref 24)),none,(some (s WE 194)),none,(some (.ref 0))]⟩
def ro:Obj:=⟨(.type "super"),none,.fields ⟨[.ref 31,.ref 31,.ref 31]⟩, #[]⟩
def uo:Obj:=⟨(.type "builtin_function_or_method"),none,.fields ⟨[(.builtin "object.__init_subclass__"),.ref 31]⟩, #[]⟩
def vo (P:Params):Obj:=dO 4 [e P yF 221 (s WE 194),e P lI 223 (s z5 222),e P zF 225 (.int (7) 224),e P AF 226 (.ref 42)]
def wo:Obj:=cO [s z5 216,s z5 217,s z2 218,i 7,i 0,i 0,i 0,i 0,.ref 38,(.bool false),i 181,.ref 39,.none,.none,.none,.none,i 219,i 7,s z2 220]
def zo:Obj:=⟨(.type "frame"),none,.plain, #[(some (.ref 40)),(some (.ref 3)),(some (.ref 37)),none,(some (s WE 194)),none,(some (.ref 0))]⟩
def So:Obj:=⟨(.type "super"),none,.fields ⟨[.ref 44,.ref 44,.ref 44]⟩, #[]⟩
def To:Obj:=⟨(.type "builtin_function_or_method"),none,.fields ⟨[(.builtin "object.__init_subclass__"),.ref 44]⟩, #[]⟩
def Uo (P:Params):Obj:=dO 4 [e P yF 237 (s WE 194),e P lI 239 (s z6 238),e P zF 241 (.int (9) 240),e P AF 242 (.ref 54)]
def Vo:Obj:=cO [s z6 232,s z6 233,s z2 234,i 9,i 0,i 0,i 0,i 0,.ref 50,(.bool false),i 181,.ref 51,.none,.none,.none,.none,i 235,i 9,s z2 236]
def Wo:Obj:=⟨(.type "frame"),none,.plain, #[(some (.ref 52)),(some (.ref 3)),(some (.ref 49)),none,(some (s WE 194)),none,(some (.ref 0))]⟩
def Xo:Obj:=⟨(.type "super"),none,.fields ⟨[.ref 56,.ref 56,.ref 56]⟩, #[]⟩
def Yo:Obj:=⟨(.type "builtin_function_or_method"),none,.fields ⟨[(.builtin "object.__init_subclass__"),.ref 56]⟩, #[]⟩
def Zo (P:Params):Obj:=dO 4 [e P yF 253 (s WE 194),e P lI 255 (s z7 254),e P zF 257 (.int (11) 256),e P AF 258 (.ref 66)]
def ap:Obj:=cO [s z7 248,s z7 249,s z2 250,i 11,i 0,i 0,i 0,i 0,.ref 62,(.bool false),i 181,.ref 63,.none,.none,.none,.none,i 251,i 11,s z2 252]
def bp:Obj:=⟨(.type "frame"),none,.plain, #[(some (.ref 64)),(some (.ref 3)),(some (.ref 61)),none,(some (s WE 194)),none,(some (.ref 0))]⟩
def cp:Obj:=⟨(.type "super"),none,.fields ⟨[.ref 68,.ref 68,.ref 68]⟩, #[]⟩
def gp:Obj:=⟨(.type "builtin_function_or_method"),none,.fields ⟨[(.builtin "object.__init_subclass__"),.ref 68]⟩, #[]⟩
def ip (P:Params):Obj:=dO 4 [e P yF 269 (s WE 194),e P lI 271 (s z8 270),e P zF 273 (.int (13) 272),e P AF 274 (.ref 78)]
def jp:Obj:=cO [s z8 264,s z8 265,s z2 266,i 13,i 0,i 0,i 0,i 0,.ref 74,(.bool false),i 181,.ref 75,.none,.none,.none,.none,i 267,i 13,s z2 268]
def pp:Obj:=⟨(.type "frame"),none,.plain, #[(some (.ref 76)),(some (.ref 3)),(some (.ref 73)),none,(some (s WE 194)),none,(some (.ref 0))]⟩
def qp:Obj:=⟨(.type "super"),none,.fields ⟨[.ref 80,.ref 80,.ref 80]⟩, #[]⟩
def rp:Obj:=⟨(.type "builtin_function_or_method"),none,.fields ⟨[(.builtin "object.__init_subclass__"),.ref 80]⟩, #[]⟩
def vp (P:Params):Obj:=dO 4 [e P yF 285 (s WE 194),e P lI 287 (s z9 286),e P zF 289 (.int (15) 288),e P AF 290 (.ref 90)]
def wp:Obj:=cO [s z9 280,s z9 281,s z2 282,i 15,i 0,i 0,i 0,i 0,.ref 86,(.bool false),i 181,.ref 87,.none,.none,.none,.none,i 283,i 15,s z2 284]
def xp:Obj:=⟨(.type "frame"),none,.plain, #[(some (.ref 88)),(some (.ref 3)),(some (.ref 85)),none,(some (s WE 194)),none,(some (.ref 0))]⟩
def yp:Obj:=⟨(.type "super"),none,.fields ⟨[.ref 92,.ref 92,.ref 92]⟩, #[]⟩
def Vp:Obj:=⟨(.type "builtin_function_or_method"),none,.fields ⟨[(.builtin "object.__init_subclass__"),.ref 92]⟩, #[]⟩
def Wp (P:Params):Obj:=dO 4 [e P yF 301 (s WE 194),e P lI 303 (s uM 302),e P zF 305 (.int (17) 304),e P AF 306 (.ref 102)]
def Xp:Obj:=cO [s uM 296,s uM 297,s z2 298,i 17,i 0,i 0,i 0,i 0,.ref 98,(.bool false),i 181,.ref 99,.none,.none,.none,.none,i 299,i 17,s z2 300]
def Yp:Obj:=⟨(.type "frame"),none,.plain, #[(some (.ref 100)),(some (.ref 3)),(some (.ref 97)),none,(some (s WE 194)),none,(some (.ref 0))]⟩
def Zp:Obj:=⟨(.type "super"),none,.fields ⟨[.ref 104,.ref 104,.ref 104]⟩, #[]⟩
def aq:Obj:=⟨(.type "builtin_function_or_method"),none,.fields ⟨[(.builtin "object.__init_subclass__"),.ref 104]⟩, #[]⟩
def bq (P:Params):Obj:=dO 4 [e P yF 317 (s WE 194),e P lI 319 (s vM 318),e P zF 321 (.int (19) 320),e P AF 322 (.ref 114)]
def cq:Obj:=cO [s vM 312,s vM 313,s z2 314,i 19,i 0,i 0,i 0,i 0,.ref 110,(.bool false),i 181,.ref 111,.none,.none,.none,.none,i 315,i 19,s z2 316]
def dq:Obj:=⟨(.type "frame"),none,.plain, #[(some (.ref 112)),(some (.ref 3)),(some (.ref 109)),none,(some (s WE 194)),none,(some (.ref 0))]⟩
def fq:Obj:=⟨(.type "super"),none,.fields ⟨[.ref 116,.ref 116,.ref 116]⟩, #[]⟩
def gq:Obj:=⟨(.type "builtin_function_or_method"),none,.fields ⟨[(.builtin "object.__init_subclass__"),.ref 116]⟩, #[]⟩
def iq (P:Params):Obj:=dO 4 [e P yF 333 (s WE 194),e P lI 335 (s wM 334),e P zF 337 (.int (21) 336),e P AF 338 (.ref 126)]
def jq:Obj:=cO [s wM 328,s wM 329,s z2 330,i 21,i 0,i 0,i 0,i 0,.ref 122,(.bool false),i 181,.ref 123,.none,.none,.none,.none,i 331,i 21,s z2 332]
def kq:Obj:=⟨(.type "frame"),none,.plain, #[(some (.ref 124)),(some (.ref 3)),(some (.ref 121)),none,(some (s WE 194)),none,(some (.ref 0))]⟩
def lq:Obj:=⟨(.type "super"),none,.fields ⟨[.ref 128,.ref 128,.ref 128]⟩, #[]⟩
def mq:Obj:=⟨(.type "builtin_function_or_method"),none,.fields ⟨[(.builtin "object.__init_subclass__"),.ref 128]⟩, #[]⟩
def nq (P:Params):Obj:=dO 4 [e P yF 349 (s WE 194),e P lI 351 (s xM 350),e P zF 353 (.int (23) 352),e P AF 354 (.ref 138)]
def oq:Obj:=cO [s xM 344,s xM 345,s z2 346,i 23,i 0,i 0,i 0,i 0,.ref 134,(.bool false),i 181,.ref 135,.none,.none,.none,.none,i 347,i 23,s z2 348]
def pq:Obj:=⟨(.type "frame"),none,.plain, #[(some (.ref 136)),(some (.ref 3)),(some (.ref 133)),none,(some (s WE 194)),none,(some (.ref 0))]⟩
def rq:Obj:=⟨(.type "super"),none,.fields ⟨[.ref 140,.ref 140,.ref 140]⟩, #[]⟩
def tq:Obj:=⟨(.type "builtin_function_or_method"),none,.fields ⟨[(.builtin "object.__init_subclass__"),.ref 140]⟩, #[]⟩
def uq:Obj:=⟨.none,none,.func {name:=(S gN),qualname:=(S gN),params:=BC (AC 13),body:=.stmts (zC (AC 13)),scope:=mC (AC 13),globals:=0,closure:=[],defaults:=.none,kwdefaults:=.none,doc:=.none,pyModule:=.none,annotations:=none,code:=.none,closureTuple:=.none,builtins:=0}, #[]⟩
def vq:Obj:=⟨.none,none,.func {name:=(S iN),qualname:=(S iN),params:=BC (AC 14),body:=.stmts (zC (AC 14)),scope:=mC (AC 14),globals:=0,closure:=[],defaults:=.none,kwdefaults:=.none,doc:=.none,pyModule:=.none,annotations:=none,code:=.none,closureTuple:=.none,builtins:=0}, #[]⟩
def wq:Obj:=⟨.none,none,.func {name:=(S jN),qualname:=(S jN),params:=BC (AC 17),body:=.stmts (zC (AC 17)),scope:=mC (AC 17),globals:=0,closure:=[],defaults:=.none,kwdefaults:=.none,doc:=.none,pyModule:=.none,annotations:=none,code:=.none,closureTuple:=.none,builtins:=0}, #[]⟩
def xq:Obj:=⟨.none,none,.func {name:=(S kN),qualname:=(S kN),params:=BC (AC 18),body:=.stmts (zC (AC 18)),scope:=mC (AC 18),globals:=0,closure:=[],defaults:=.none,kwdefaults:=.none,doc:=.none,pyModule:=.none,annotations:=none,code:=.none,closureTuple:=.none,builtins:=0}, #[]⟩
def yq:Obj:=⟨.none,none,.func {name:=(S lN),qualname:=(S lN),params:=BC (AC 19),body:=.stmts (zC (AC 19)),scope:=mC (AC 19),globals:=0,closure:=[],defaults:=.none,kwdefaults:=.none,doc:=.none,pyModule:=.none,annotations:=none,code:=.none,closureTuple:=.none,builtins:=0}, #[]⟩
def zq:Obj:=⟨.none,none,.func {name:=(S nN),qualname:=(S nN),params:=BC (AC 20),body:=.stmts (zC (AC 20)),scope:=mC (AC 20),globals:=0,closure:=[],defaults:=.none,kwdefaults:=.none,doc:=.none,pyModule:=.none,annotations:=none,code:=.none,closureTuple:=.none,builtins:=0}, #[]⟩
def Sq:Obj:=⟨.none,none,.func {name:=(S pN),qualname:=(S pN),params:=BC (AC 21),body:=.stmts (zC (AC 21)),scope:=mC (AC 21),globals:=0,closure:=[],defaults:=.none,kwdefaults:=.none,doc:=.none,pyModule:=.none,annotations:=none,code:=.none,closureTuple:=.none,builtins:=0}, #[]⟩
def Tq:Obj:=⟨.none,none,.func {name:=(S qN),qualname:=(S qN),params:=BC (AC 22),body:=.stmts (zC (AC 22)),scope:=mC (AC 22),globals:=0,closure:=[],defaults:=.none,kwdefaults:=.none,doc:=.none,pyModule:=.none,annotations:=none,code:=.none,closureTuple:=.none,builtins:=0}, #[]⟩
def Uq (P:Params):Obj:=dO 20 [e P yF 438 (s oF 376),e P lI 440 (s yM 439),e P zF 442 (.int (56) 441),e P tK 449 (.ref 212),e P 7698033 460 (.ref 220),e P 7698020 469 (.ref 227),e P rN 475 (.ref 232),e P fT 484 (.ref 239),e P sN 493 (.ref 246),e P tN 502 (.ref 253),e P iT 511 (.ref 260),e P jT 517 (.ref 265),e P kT 523 (.ref 270),e P 1701671029 530 (.ref 277),e P 111490546888804 538 (.ref 284),e P lT 549 (.ref 291),e P mT 555 (.ref 296),e P pT 564 (.ref 303),e P qT 570 (.ref 308),e P AF 572 (.ref 309)]
def Vq:Obj:=⟨.none,none,.fields ⟨[i 58,i 4,.ref 211,i 61,i 4,.ref 219,i 67,i 4,.ref 226,i 71,i 4,.ref 231,i 77,i 4,.ref 238,i 81,i 4,.ref 245,i 85,i 4,.ref 252,i 89,i 4,.ref 259,i 92,i 4,.ref 264,i 95,i 4,.ref 269,i 98,i 4,.ref 276,i 101,i 4,.ref 283,i 106,i 4,.ref 290,i 117,i 4,.ref 295,i 122,i 4,.ref 302,i 126,i 4,.ref 307]⟩, #[]⟩
def Wq:Obj:=cO [s yM 433,s yM 434,s z2 435,i 56,i 0,i 0,i 0,i 0,.ref 202,(.bool false),i 181,.ref 203,.none,.none,.none,.none,i 436,i 56,s z2 437]
def Xq:Obj:=⟨(.type "frame"),none,.plain, #[(some (.ref 204)),(some (.ref 3)),(some (.ref 201)),none,(some (s oF 376)),none,(some (.ref 0))]⟩
def Yq:Obj:=⟨.none,none,.func {name:=(S tK),qualname:=(S 8395602628992143088491004079736651362039124),params:=BC (oC (AC 23) 0),body:=.stmts (zC (oC (AC 23) 0)),scope:=mC (oC (AC 23) 0),globals:=0,closure:=[],defaults:=.none,kwdefaults:=.none,doc:=.none,pyModule:=.none,annotations:=none,code:=.none,closureTuple:=.none,builtins:=0}, #[]⟩
def Zq:Obj:=⟨.none,none,.func {name:=(S 7698033),qualname:=(S 9306351078043889216994357245268),params:=BC (oC (AC 23) 1),body:=.stmts (zC (oC (AC 23) 1)),scope:=mC (oC (AC 23) 1),globals:=0,closure:=[],defaults:=.none,kwdefaults:=.none,doc:=.none,pyModule:=.none,annotations:=none,code:=.none,closureTuple:=.none,builtins:=0}, #[]⟩
def ar:Obj:=⟨.none,none,.func {name:=(S 7698020),qualname:=(S 9306335362008234226815086064980),params:=BC (oC (AC 23) 2),body:=.stmts (zC (oC (AC 23) 2)),scope:=mC (oC (AC 23) 2),globals:=0,closure:=[],defaults:=.none,kwdefaults:=.none,doc:=.none,pyModule:=.none,annotations:=none,code:=.none,closureTuple:=.none,builtins:=0}, #[]⟩
def br:Obj:=⟨.none,none,.func {name:=(S rN),qualname:=(S 526762260821547473070605117598954836),params:=BC (oC (AC 23) 3),body:=.stmts (zC (oC (AC 23) 3)),scope:=mC (oC (AC 23) 3),globals:=0,closure:=[],defaults:=.none,kwdefaults:=.none,doc:=.none,pyModule:=.none,annotations:=none,code:=.none,closureTuple:=.none,builtins:=0}, #[]⟩
def cr:Obj:=⟨.none,none,.func {name:=(S fT),qualname:=(S we),params:=BC (oC (AC 23) 4),body:=.stmts (zC (oC (AC 23) 4)),scope:=mC (oC (AC 23) 4),globals:=0,closure:=[],defaults:=.none,kwdefaults:=.none,doc:=.none,pyModule:=.none,annotations:=none,code:=.none,closureTuple:=.none,builtins:=0}, #[]⟩
def gr:Obj:=⟨.none,none,.func {name:=(S sN),qualname:=(S ye),params:=BC (oC (AC 23) 5),body:=.stmts (zC (oC (AC 23) 5)),scope:=mC (oC (AC 23) 5),globals:=0,closure:=[],defaults:=.none,kwdefaults:=.none,doc:=.none,pyModule:=.none,annotations:=none,code:=.none,closureTuple:=.none,builtins:=0}, #[]⟩
def jr:Obj:=⟨.none,none,.func {name:=(S tN),qualname:=(S 156030475824513176713048584412386784596),params:=BC (oC (AC 23) 6),body:=.stmts (zC (oC (AC 23) 6)),scope:=mC (oC (AC 23) 6),globals:=0,closure:=[],defaults:=.none,kwdefaults:=.none,doc:=.none,pyModule:=.none,annotations:=none,code:=.none,closureTuple:=.none,builtins:=0}, #[]⟩
def kr:Obj:=⟨.none,none,.func {name:=(S iT),qualname:=(S 34844981892374637606343691086821957268820),params:=BC (oC (AC 23) 7),body:=.stmts (zC (oC (AC 23) 7)),scope:=mC (oC (AC 23) 7),globals:=0,closure:=[],defaults:=.none,kwdefaults:=.none,doc:=.none,pyModule:=.none,annotations:=none,code:=.none,closureTuple:=.none,builtins:=0}, #[]⟩
def mr:Obj:=⟨.none,none,.func {name:=(S jT),qualname:=(S 37236278633682276866180525579755284821332),params:=BC (oC (AC 23) 8),body:=.stmts (zC (oC (AC 23) 8)),scope:=mC (oC (AC 23) 8),globals:=0,closure:=[],defaults:=.none,kwdefaults:=.none,doc:=.none,pyModule:=.none,annotations:=none,code:=.none,closureTuple:=.none,builtins:=0}, #[]⟩
def nr:Obj:=⟨.none,none,.func {name:=(S kT),qualname:=(S 34504653078735706780555045640184744080724),params:=BC (oC (AC 23) 9),body:=.stmts (zC (oC (AC 23) 9)),scope:=mC (oC (AC 23) 9),globals:=0,closure:=[],defaults:=.none,kwdefaults:=.none,doc:=.none,pyModule:=.none,annotations:=none,code:=.none,closureTuple:=.none,builtins:=0}, #[]⟩
def qr:Obj:=⟨.none,none,.func {name:=(S 1701671029),qualname:=(S 2057194043672392837723022735668564),params:=BC (oC (AC 23) 10),body:=.stmts (zC (oC (AC 23) 10)),scope:=mC (oC (AC 23) 10),globals:=0,closure:=[],defaults:=.none,kwdefaults:=.none,doc:=.none,pyModule:=.none,annotations:=none,code:=.none,closureTuple:=.none,builtins:=0}, #[]⟩
def sr:Obj:=⟨.none,none,.func {name:=(S 111490546888804),qualname:=(S 134783800776830844550708368151093146964),params:=BC (oC (AC 23) 11),body:=.stmts (zC (oC (AC 23) 11)),scope:=mC (oC (AC 23) 11),globals:=0,closure:=[],defaults:=.none,kwdefaults:=.none,doc:=.none,pyModule:=.none,annotations:=none,code:=.none,closureTuple:=.none,builtins:=0}, #[]⟩
def ur:Obj:=⟨.none,none,.func {name:=(S lT),qualname:=(S ze),params:=BC (oC (AC 23) 12),body:=.stmts (zC (oC (AC 23) 12)),scope:=mC (oC (AC 23) 12),globals:=0,closure:=[],defaults:=.none,kwdefaults:=.none,doc:=.none,pyModule:=.none,annotations:=none,code:=.none,closureTuple:=.none,builtins:=0}, #[]⟩
def vr:Obj:=⟨.none,none,.func {name:=(S mT),qualname:=(S Te),params:=BC (oC (AC 23) 13),body:=.stmts (zC (oC (AC 23) 13)),scope:=mC (oC (AC 23) 13),globals:=0,closure:=[],defaults:=.none,kwdefaults:=.none,doc:=.none,pyModule:=.none,annotations:=none,code:=.none,closureTuple:=.none,builtins:=0}, #[]⟩
def xr:Obj:=⟨.none,none,.func {name:=(S pT),qualname:=(S 39943802116018770004276114331333133825364),params:=BC (oC (AC 23) 14),body:=.stmts (zC (oC (AC 23) 14)),scope:=mC (oC (AC 23) 14),globals:=0,closure:=[],defaults:=.none,kwdefaults:=.none,doc:=.none,pyModule:=.none,annotations:=none,code:=.none,closureTuple:=.none,builtins:=0}, #[]⟩
def yr:Obj:=⟨.none,none,.func {name:=(S qT),qualname:=(S 8834557535882840484900534439152844413302100),params:=BC (oC (AC 23) 15),body:=.stmts (zC (oC (AC 23) 15)),scope:=mC (oC (AC 23) 15),globals:=0,closure:=[],defaults:=.none,kwdefaults:=.none,doc:=.none,pyModule:=.none,annotations:=none,code:=.none,closureTuple:=.none,builtins:=0}, #[]⟩
def zr:Obj:=⟨(.type "super"),none,.fields ⟨[.ref 311,.ref 311,.ref 311]⟩, #[]⟩
def Sr:Obj:=⟨(.type "builtin_function_or_method"),none,.fields ⟨[(.builtin "object.__init_subclass__"),.ref 311]⟩, #[]⟩
section
variable (P:Params)
def Tr:W.BT:=.node zE (.node (QP P) (.node zE .nil .nil) .nil) (.node tQ .nil .nil)
def Ur (P:Params):W.BT:=.node qG (.node eQ (.node fR .nil .nil) .nil) (.node EQ .nil .nil)
def Vr:W.BT:=.node (mf P) (.node DC (.node DC .nil .nil) .nil) (.node zE .nil .nil)
def Wr (P:Params):W.BT:=.node zE (.node yq (.node nR .nil .nil) .nil) (.node LQ .nil .nil)
def Xr (P:Params):W.BT:=.node qG (.node zE (.node mr .nil .nil) .nil) (.node XF .nil .nil)
def Yr:W.BT:=.node (MP P) (.node DC (.node jR .nil .nil) .nil) (.node HQ .nil .nil)
def Zr (P:Params):W.BT:=.node zE (.node zE (.node zE .nil .nil) .nil) (.node zE .nil .nil)
def cs (P:Params):W.BT:=.node qG (.node pQ (.node tR .nil .nil) .nil) (.node DC .nil .nil)
def Ss:W.BT:=.node (W.boot_o_7 P) (.node DC (.node Ze (Tr P) (Ur P)) (.node qG (Vr P) (Wr P))) (.node mI (.node zE (Xr P) (Yr P)) (.node (df P) (Zr P) (cs P)))
def Ts:W.BT:=.node (jf P) (.node qG (.node TQ .nil .nil) .nil) (.node DC .nil .nil)
def Us (P:Params):W.BT:=.node zE (.node gQ (.node iR .nil .nil) .nil) (.node GQ .nil .nil)
def Vs (P:Params):W.BT:=.node qG (.node uq (.node qr .nil .nil) .nil) (.node yQ .nil .nil)
def Ws:W.BT:=.node (OP P) (.node zE (.node pR .nil .nil) .nil) (.node DC .nil .nil)
def Xs:W.BT:=.node zE (.node (UP P) (.node zE .nil .nil) .nil) (.node Vq .nil .nil)
def Ys (P:Params):W.BT:=.node qG (.node DC (.node lR .nil .nil) .nil) (.node JQ .nil .nil)
def Zs:W.BT:=.node (qf P) (.node cQ (.node dR .nil .nil) .nil) (.node CQ .nil .nil)
def bt (P:Params):W.BT:=.node zE (.node rQ (.node Sr .nil .nil) .nil) (.node jr .nil .nil)
def ft:W.BT:=.node DC (.node ko (.node qG (Ts P) (Us P)) (.node zE (Vs P) (Ws P))) (.node oo (.node (bf P) (Xs P) (Ys P)) (.node qG (Zs P) (bt P)))
def jt (P:Params):W.BT:=.node bp (.node lq (.node DC .nil .nil) .nil) (.node zE .nil .nil)
def kt:W.BT:=.node (Wp P) (.node wq (.node ur .nil .nil) .nil) (.node ar .nil .nil)
def nt (P:Params):W.BT:=.node qp (.node WP (.node ZQ .nil .nil) .nil) (.node DC .nil .nil)
def ot (P:Params):W.BT:=.node dq (.node nQ (.node zE .nil .nil) .nil) (.node zE .nil .nil)
def qt:W.BT:=.node (ip P) (.node pq (.node WQ .nil .nil) .nil) (.node (Uq P) .nil .nil)
def ut (P:Params):W.BT:=.node Zp (.node jQ (.node DC .nil .nil) .nil) (.node DC .nil .nil)
def vt (P:Params):W.BT:=.node xp (.node DC (.node DC .nil .nil) .nil) (.node DC .nil .nil)
def wt:W.BT:=.node (iq P) (.node DC (.node wR .nil .nil) .nil) (.node PQ .nil .nil)
def xt:W.BT:=.node (W.boot_o_9 P) (.node Ue (.node ro (jt P) (kt P)) (.node (Uo P) (nt P) (ot P))) (.node DC (.node zo (qt P) (ut P)) (.node Xo (vt P) (wt P)))
def yt:W.BT:=.node cp (.node (nq P) (.node DC .nil .nil) .nil) (.node vQ .nil .nil)
def zt (P:Params):W.BT:=.node Yp (.node zE (.node zE .nil .nil) .nil) (.node zE .nil .nil)
def Tt:W.BT:=.node (vp P) (.node aQ (.node bR .nil .nil) .nil) (.node AQ .nil .nil)
def Ut (P:Params):W.BT:=.node fq (.node DC (.node rR .nil .nil) .nil) (.node NQ .nil .nil)
def Vt (P:Params):W.BT:=.node pp (.node rq (.node XQ .nil .nil) .nil) (.node Xq .nil .nil)
def Wt:W.BT:=.node (bq P) (.node lQ (.node xr .nil .nil) .nil) (.node cr .nil .nil)
def Yt (P:Params):W.BT:=.node yp (.node DC (.node DC .nil .nil) .nil) (.node DC .nil .nil)
def Zt (P:Params):W.BT:=.node kq (.node Sq .nil .nil) (.node RQ .nil .nil)
def au:W.BT:=.node S2 (.node We (.node (vo P) (yt P) (zt P)) (.node Wo (Tt P) (Ut P))) (.node XF (.node So (Vt P) (Wt P)) (.node (Zo P) (Yt P) (Zt P)))
def cu (P:Params):W.BT:=.node ap (.node RP (.node SQ .nil .nil) .nil) (.node DC .nil .nil)
def du (P:Params):W.BT:=.node mI (.node DC (.node DC .nil .nil) .nil) (.node DC .nil .nil)
def eu (P:Params):W.BT:=.node pf (.node zE (.node zE .nil .nil) .nil) (.node xQ .nil .nil)
def fu (P:Params):W.BT:=.node cq (.node mQ (.node DC .nil .nil) .nil) (.node DC .nil .nil)
def gu (P:Params):W.BT:=.node mI (.node oq (.node VQ .nil .nil) .nil) (.node mI .nil .nil)
def iu (P:Params):W.BT:=.node NP (.node xq (.node kR .nil .nil) .nil) (.node IQ .nil .nil)
def ju (P:Params):W.BT:=.node wp (.node bQ (.node cR .nil .nil) .nil) (.node BQ .nil .nil)
def ku (P:Params):W.BT:=.node mI (.node qQ (.node vR .nil .nil) .nil) (.node zE .nil .nil)
def lu:W.BT:=.node (W.boot_o_8 P) (.node zE (.node af (cu P) (du P)) (.node mI (eu P) (fu P))) (.node (mo P) (.node wo (gu P) (iu P)) (.node gf (ju P) (ku P)))
def nu (P:Params):W.BT:=.node lf (.node mI (.node UQ .nil .nil) .nil) (.node Tq .nil .nil)
def ou (P:Params):W.BT:=.node Xp (.node DC (.node DC .nil .nil) .nil) (.node DC .nil .nil)
def qu (P:Params):W.BT:=.node mI (.node ZP (.node aR .nil .nil) .nil) (.node zQ .nil .nil)
def tu (P:Params):W.BT:=.node PP (.node oQ (.node qR .nil .nil) .nil) (.node gr .nil .nil)
def uu (P:Params):W.BT:=.node jp (.node VP (.node nr .nil .nil) .nil) (.node Wq .nil .nil)
def wu (P:Params):W.BT:=.node mI (.node zE (.node DC .nil .nil) .nil) (.node DC .nil .nil)
def xu (P:Params):W.BT:=.node rf (.node dQ (.node eR .nil .nil) .nil) (.node DQ .nil .nil)
def yu (P:Params):W.BT:=.node jq (.node DC .nil .nil) (.node QQ .nil .nil)
def zu:W.BT:=.node jo (.node Ve (.node mI (nu P) (ou P)) (.node Vo (qu P) (tu P))) (.node qo (.node cf (uu P) (wu P)) (.node mI (xu P) (yu P)))
def Su (P:Params):W.BT:=.node XF (.node mq (.node kr .nil .nil) .nil) (.node uQ .nil .nil)
def Tu (P:Params):W.BT:=.node DC (.node fQ (.node gR .nil .nil) .nil) (.node FQ .nil .nil)
def Uu (P:Params):W.BT:=.node rp (.node DC (.node DC .nil .nil) .nil) (.node Yq .nil .nil)
def Vu (P:Params):W.BT:=.node XF (.node DC (.node yr .nil .nil) .nil) (.node MQ .nil .nil)
def Wu (P:Params):W.BT:=.node DC (.node XF (.node DC .nil .nil) .nil) (.node DC .nil .nil)
def Xu (P:Params):W.BT:=.node aq (.node kQ (.node zE .nil .nil) .nil) (.node zE .nil .nil)
def Yu (P:Params):W.BT:=.node XF (.node vq (.node sr .nil .nil) .nil) (.node Zq .nil .nil)
def Zu (P:Params):W.BT:=.node DC (.node zE (.node zr .nil .nil) .nil) (.node DC .nil .nil)
def av:W.BT:=.node (W.boot_o_10 P) (.node DC (.node uo (Su P) (Tu P)) (.node DC (Uu P) (Vu P))) (.node zE (.node XF (Wu P) (Xu P)) (.node Yo (Yu P) (Zu P)))
def bv (P:Params):W.BT:=.node gp (.node DC (.node zE .nil .nil) .nil) (.node wQ .nil .nil)
def fv (P:Params):W.BT:=.node XF (.node iQ (.node vr .nil .nil) .nil) (.node br .nil .nil)
def gv (P:Params):W.BT:=.node DC (.node DC (.node DC .nil .nil) .nil) (.node DC .nil .nil)
def jv:W.BT:=.node gq (.node zq (.node (sR P) .nil .nil) .nil) (.node OQ .nil .nil)
def mv (P:Params):W.BT:=.node XF (.node tq (.node YQ .nil .nil) .nil) (.node DC .nil .nil)
def pv (P:Params):W.BT:=.node DC (.node DC (.node mR .nil .nil) .nil) (.node KQ .nil .nil)
def qv (P:Params):W.BT:=.node Vp (.node zE (.node zE .nil .nil) .nil) (.node zE .nil .nil)
def vv (P:Params):W.BT:=.node XF (.node sQ .nil .nil) (.node DC .nil .nil)
def wv:W.BT:=.node T2 (.node Xe (.node DC (bv P) (fv P)) (.node XF (gv P) (jv P))) (.node (Ye P) (.node To (mv P) (pv P)) (.node DC (qv P) (vv P)))
def xv:W.BT:=.node (W.boot_o_0 P) (.node (W.boot_o_1 P) (.node (AM P) (Ss P) (ft P)) (.node (W.boot_o_5 P) (xt P) (au P))) (.node (W.boot_o_2 P) (.node (W.boot_o_4 P) (lu P) (zu P)) (.node (W.boot_o_6 P) (av P) (wv P)))
end
noncomputable def WG (w:World) (os:OsState):W.SharedT:=⟨xv w.params,316,(W.boot_heap w.params).life, #[],W.boot_drawn,580,os⟩
noncomputable def _root_.PySem.W.Fast.tw6382785962867764972:World->OsState->W.SharedT:=WG
theorem _root_.PySem.W.Fast.te6382785962867764972:@Eq (World->OsState->W.SharedT) WG _root_.PySem.W.Fast.tw6382785962867764972:=rfl
noncomputable def bs:List Stmt:=W.behindTheImports PySem.Challenge.pw_frameland_k47_house_any_row
noncomputable def env:Env:={scope:=PySem.Challenge.pw_frameland_k47_house_any_row.main.scope,locals:=mainNs,globals:=mainNs,cells:=[],code:=(.ref 13),frame:=some 14}
noncomputable def L0 (w:World) (os:OsState):=SM treeTable PySem.Challenge.pw_frameland_k47_house_any_row w (W.boot_heap w.params).objs.size (cF w) 12 (aG w os) (W.topStub PySem.Challenge.pw_frameland_k47_house_any_row)
noncomputable def R0 (w:World) (os:OsState):=some (vN w os,(⟨denote treeTable (Code.body bs env),(Code.body bs env),⟨0,0,0,0⟩,[W.topFrame ⟨0,0,0,0⟩]⟩:Thread))
noncomputable def L1 (w:World) (os:OsState):=W.segRunT treeTable PySem.Challenge.pw_frameland_k47_house_any_row w (W.boot_heap w.params).objs.size (cF w) 1 1 (vN w os) (W.blockOf bs env (Code.body bs env) ⟨0,0,0,0⟩ [W.topFrame ⟨0,0,0,0⟩])
noncomputable def R1 (w:World) (os:OsState):=some (Flow.next,wN w os,(Code.body bs env),(⟨0,0,0,0⟩:Pos))
noncomputable def L2 (w:World) (os:OsState):=W.segRunT treeTable PySem.Challenge.pw_frameland_k47_house_any_row w (W.boot_heap w.params).objs.size (cF w) 1 3105 (wN w os) (W.piecesOf ((bs).take 24) env (Code.body bs env) ⟨0,0,0,0⟩ [W.topFrame ⟨0,0,0,0⟩])
noncomputable def R2 (w:World) (os:OsState):=some (Flow.next,WG w os,(Code.body bs env),(⟨56,0,133,87⟩:Pos))
noncomputable def lhs (w:World) (os:OsState):=(lG treeTable PySem.Challenge.pw_frameland_k47_house_any_row w (W.boot_heap w.params).objs.size (cF w) 5432 (WG w os) (W.restOf ((bs).drop 24) env (Code.body bs env) ⟨56,0,133,87⟩ [W.topFrame ⟨0,0,0,0⟩])).map (λs=>look PySem.Challenge.pw_frameland_k47_house_any_row (λs=>EI.map s.heap.get?) (W.boot_heap w.params) s.abs)
noncomputable def rhs (w:World):=some (true,Kc w.params)
noncomputable def lht (w:World) (os:OsState):=(lG treeTable PySem.Challenge.pw_frameland_k47_house_any_row w (W.boot_heap w.params).objs.size (cF w) 5432 (WG w os) (W.restOf ((bs).drop 24) env (Code.body bs env) ⟨56,0,133,87⟩ [W.topFrame ⟨0,0,0,0⟩])).map (λs=>W.openSeen vw [] (PySem.importedModules PySem.Challenge.pw_frameland_k47_house_any_row.main.body) (λs=>W.xlAt vw [] s&&W.recOk (W.RowW.records (PySem.Challenge.rw_frameland_k47_house_any_row).row.toRowW) s) true s.abs)
noncomputable def rht:=some (W.openGood vw [])
theorem twins0:(λ(_ _:World->OsState->_)=>true) L0 R0=true:=by k_qdec
theorem U2:∀(w:World) (os:OsState),PySem.W.Fast.tw6480634986709459259 w os=PySem.W.Fast.tw3368112316094526086 w os:=by intro w os;kernel_rfl
theorem h0 (w:World) (os:OsState):SM treeTable PySem.Challenge.pw_frameland_k47_house_any_row w (W.boot_heap w.params).objs.size (cF w) 12 (aG w os) (W.topStub PySem.Challenge.pw_frameland_k47_house_any_row)=some (vN w os,(⟨denote treeTable (Code.body bs env),(Code.body bs env),⟨0,0,0,0⟩,[W.topFrame ⟨0,0,0,0⟩]⟩:Thread)):=(VB (VB PySem.W.Fast.te6480634986709459259 w) os).trans ((U2 w os).trans (VB (VB PySem.W.Fast.te3368112316094526086 w) os).symm)
theorem twins1:(λ(_ _:World->OsState->_)=>true) L1 R1=true:=by k_qdec
theorem W2:∀(w:World) (os:OsState),PySem.W.Fast.tw6549898218072122711 w os=PySem.W.Fast.tw8138977323033037049 w os:=by intro w os;kernel_rfl
theorem h1 (w:World) (os:OsState):W.segRunT treeTable PySem.Challenge.pw_frameland_k47_house_any_row w (W.boot_heap w.params).objs.size (cF w) 1 1 (vN w os) (W.blockOf bs env (Code.body bs env) ⟨0,0,0,0⟩ [W.topFrame ⟨0,0,0,0⟩])=some (Flow.next,wN w os,(Code.body bs env),(⟨0,0,0,0⟩:Pos)):=(VB (VB PySem.W.Fast.te6549898218072122711 w) os).trans ((W2 w os).trans (VB (VB PySem.W.Fast.te8138977323033037049 w) os).symm)
theorem twins2:(λ(_ _:World->OsState->_)=>true) L2 R2=true:=by k_qdec
theorem X2:∀(w:World) (os:OsState),PySem.W.Fast.tw5255168214638199525 w os=PySem.W.Fast.tw18023110596874490952 w os:=by intro w os;kernel_rfl
theorem h2 (w:World) (os:OsState):W.segRunT treeTable PySem.Challenge.pw_frameland_k47_house_any_row w (W.boot_heap w.params).objs.size (cF w) 1 3105 (wN w os) (W.piecesOf ((bs).take 24) env (Code.body bs env) ⟨0,0,0,0⟩ [W.topFrame ⟨0,0,0,0⟩])=some (Flow.next,WG w os,(Code.body bs env),(⟨56,0,133,87⟩:Pos)):=(VB (VB PySem.W.Fast.te5255168214638199525 w) os).trans ((X2 w os).trans (VB (VB PySem.W.Fast.te18023110596874490952 w) os).symm)
theorem twins:(λ(_:World->OsState->_) (_:World->_) (_:World->OsState->_) (_:Option _)=>true) lhs rhs lht rht=true:=by k_qdec
theorem yv:∀(w:World) (os:OsState),PySem.W.Fast.tw7128866508377749982 w os=PySem.W.Fast.tw12590348191598281069 w:=by intro w os;kernel_rfl
theorem zv:∀(w:World) (os:OsState),PySem.W.Fast.tw7374437481920917934 w os=PySem.W.Fast.tw10733892774512676622:=by intro w os;kernel_rfl
theorem left:W.LeftO PySem.Challenge.pw_frameland_k47_house_any_row vw [] (λs=>W.xlAt vw [] s&&W.recOk (W.RowW.records (PySem.Challenge.rw_frameland_k47_house_any_row).row.toRowW) s) (λs=>EI.map s.heap.get?) (λw=>(Kf w.params).map λp=>some p.2) (12+(1+(3105+(5432)))):=by
 refine ri (Nl:=5432) (S:=WG) (t:=(W.restOf ((bs).drop 24) env (Code.body bs env) ⟨56,0,133,87⟩ [W.topFrame ⟨0,0,0,0⟩])) (by kernel_rfl) (by kernel_rfl) (by intro s;kernel_rfl) (λw os r k=>W.go_top (n:=12) (N:=1+(3105+(5432))) (X7 (h0 w os)) (W.piece_block (n:=1) (N:=3105+(5432)) (W.segRun_of (h1 w os)) (kL (n:=3105) (N:=5432) (h2 w os) k))) (λw os=>?_) λw os=>?_
 ·rw[<-yR];exact (VB (VB PySem.W.Fast.te7128866508377749982 w) os).trans ((yv w os).trans (VB PySem.W.Fast.te12590348191598281069 w).symm)
 ·exact (VB (VB PySem.W.Fast.te7374437481920917934 w) os).trans ((zv w os).trans PySem.W.Fast.te10733892774512676622.symm)
end
end Pf
open PySem PySem.W PyProof.Rows
set_option maxRecDepth 100000 in
set_option maxHeartbeats 0 in
theorem PySem.Challenge.cw_frameland_k47_house_any_row_holds : PySem.Challenge.rw_frameland_k47_house_any_row.Holds := by
 w_on;o_law
 refine holds_open (q:=Pf.vw) (loose:=[]) (Xt:=λs=>xlAt Pf.vw [] s&&recOk (RowW.records (PySem.Challenge.rw_frameland_k47_house_any_row).row.toRowW) s) (XP:=XL Pf.vw []) (Yf:=Hook.obs (kHook Pf.Kf Pf.EI Pf.xR)) (Ya:=Hook.val (kHook Pf.Kf Pf.EI Pf.xR)) (YP:=Hook.says (kHook Pf.Kf Pf.EI Pf.xR)) (N:=(12+(1+(3105+(5432))))) Pf.left (Hook.of (kHook Pf.Kf Pf.EI Pf.xR)) (Hook.keeps (kHook Pf.Kf Pf.EI Pf.xR)) (λs e=>xl_of s (Bool.and_eq_true_iff.mp e).1) XL.keeps (by rfl) (by rfl) (by rfl) (λs e=>recFacts_of (Bool.and_eq_true_iff.mp e).2) (by rfl) (by first|assumption|decide+kernel) (by decide+kernel) ⟨rfl,rfl,rfl,rfl,rfl,by decide+kernel⟩ ?hw ?hc
 case hw=>w_witness2
 k_fill
 refine Pf.JW (l:=PySem.Challenge.rw_frameland_k47_house_any_row) rfl rfl rfl (λw h Y=>PySem.W.kIn_of Y) ?F
 case F=>
  intro w mg h KX G;refine' Pf.AL KX G ?_ ?_ ?_ ?_ ?_ ?_ ?_ ?_ ?_ ?_ ?_ ?_ ?_ ?_ ?_ ?_ ?_ ?_ ?_ ?_ ?_ ?_ ?_ ?_ ?_ ?_ ?_ ?_ ?_ ?_ (.mk ?_ ?_ ?_ ?_) (.mk ?_ ?_ ?_ ?_) (.mk ?_ ?_ ?_ ?_) (.mk ?_ ?_ ?_ ?_) (.mk ?_ ?_ ?_ ?_) (.mk ?_ ?_ ?_ ?_) (.mk ?_ ?_ ?_ ?_) (.mk ?_ ?_ ?_ ?_) (.mk ?_ ?_ ?_ ?_) (.mk ?_ ?_ ?_ ?_) (.mk ?_ ?_ ?_ ?_) (.mk ?_ ?_ ?_ ?_) (.mk ?_ ?_ ?_ ?_) (.mk ?_ ?_ ?_ ?_) (.mk ?_ ?_ ?_ ?_) (.mk ?_ ?_ ?_ ?_) (.mk ?_ ?_ ?_ ?_) (.mk ?_ ?_ ?_ ?_) (.mk ?_ ?_ ?_ ?_) (.mk ?_ ?_ ?_ ?_) (.mk ?_ ?_ ?_ ?_) (.mk ?_ ?_ ?_ ?_) (.mk ?_ ?_ ?_ ?_) (.mk ?_ ?_ ?_ ?_) (.mk ?_ ?_ ?_ ?_) (.mk ?_ ?_ ?_ ?_) (.mk ?_ ?_ ?_ ?_) (.mk ?_ ?_ ?_ ?_) (.mk ?_ ?_ ?_ ?_) (.mk ?_ ?_ ?_ ?_) ⟨?_,?_,?_,?_⟩ ?_ (.mk ?_ ?_ ?_ ?_ ?_ ?_ ?_) ?_ ?_ ?_ ?_ ?_ ?_ (.mk ?_ ?_ ?_ ?_ ?_) (.mk ?_ ?_ ?_ ?_ ?_) (.mk ?_ ?_ ?_ ?_ ?_) (.mk ?_ ?_ ?_ ?_ ?_) (.mk ?_ ?_ ?_ ?_ ?_) (.mk ?_ ?_ ?_ ?_ ?_) (.mk ?_ ?_ ?_ ?_ ?_) (.mk ?_ ?_ ?_ ?_ ?_) (.mk ?_ ?_ ?_ ?_ ?_) (.mk ?_ ?_ ?_ ?_ ?_) (.mk ?_ ?_ ?_ ?_ ?_) (.mk ?_ ?_ ?_ ?_ ?_) (.mk ?_ ?_ ?_ ?_ ?_) (.mk ?_ ?_ ?_ ?_ ?_) ⟨?_,?_,?_,?_⟩ ?_ ?_ ?_ (.mk ?_ ?_ ?_ ?_ ?_ ?_ ?_) (.mk ?_ ?_ ?_ ?_ ?_) (.mk ?_ ?_ ?_ ?_ ?_) (.mk ?_ ?_ ?_ ?_ ?_) (.mk ?_ ?_ ?_ ?_ ?_) (.mk ?_ ?_ ?_ ?_ ?_) ?_ ?_ ?_ ?_ ?_ ?_ (.mk ?_ ?_ ?_ ?_ ?_) (.mk ?_ ?_ ?_ ?_ ?_) (.mk ?_ ?_ ?_ ?_ ?_) (.mk ?_ ?_ ?_ ?_ ?_) (.mk ?_ ?_ ?_ ?_ ?_) (.mk ?_ ?_ ?_ ?_ ?_) (.mk ?_ ?_ ?_ ?_ ?_) (.mk ?_ ?_ ?_ ?_ ?_) (.mk ?_ ?_ ?_ ?_ ?_) (.mk ?_ ?_ ?_ ?_ ?_) (.mk ?_ ?_ ?_ ?_ ?_) (.mk ?_ ?_ ?_ ?_ ?_) ⟨?_,?_,?_,?_⟩ ?_ ?_ ?_ ?_ ?_ ?_ (.mk ?_ ?_ ?_ ?_ ?_ ?_ ?_) (.mk ?_ ?_ ?_ ?_ ?_) (.mk ?_ ?_ ?_ ?_ ?_) ?_ ?_ ?_ ?g0 ?g1 ?_ ?_ ?_ ?_ ?_ ?_ ?_ ?_ ?g2 ?_ ?_ ?_ ?_ ?_ ?_ ?_ ?_ ?g3 ?_ ?_ ?_ ?_ ?_ ?_ ?_ ?_ ?g4 ?_ ?_ ?_ ?_ ?_ ?_ ?_ ?_ ?g5 ?_ ?_ ?_ ?_ ?_ ?_ ?_ ?_ ?g6 ?_ ?_ ?_ ?_ ?_ ?_ ?_ ?_ ?g7 ?_ ?_ ?_ ?_ ?_ ?_ ?_ ?_ ?g8 ?_ ?_ ?_ ?_ ?_ ?_ ?_ ?_ ?_ ?_ ?_ ?_ ?_ ?_ ?_ ?_ ?g9 ?g10 ?g11 ?g12 ?g13 ?g14 ?g15 ?g16 ?g17 ?g18 ?g19 ?g20 ?g21 ?g22 ?g23 ?g24 ?g25 ?g26 ?g27 ?g28 ?g29 ?g30 ?g31 ?g32 ?g33 ?g34 ?g35 ?g36 ?g37 ?g38 ?g39 ?g40 ?g41 ?g42 ?g43 ?g44 ?g45 ?g46 ?g47 ?g48 ?g49 ?g50 ?g51 ?g52 ?g53 ?g54 ?g55 ?g56 ?g57 ?g58 ?g59 ?g60 ?g61 ?g62 ?g63 ?g64 ?g65 ?g66 ?g67 ?g68 ?g69 ?g70 ?g71 ?g72 (.mk ?_ ?_ ?_ ?_)
  all_goals first|k_is|skip
  (case g0=>k_exc)
  (case g1=>k_exc)
  (case g2=>k_exc)
  (case g3=>k_exc)
  (case g4=>k_exc)
  (case g5=>k_exc)
  (case g6=>k_exc)
  (case g7=>k_exc)
  (case g8=>k_exc)
  (case g9=>kit_is)
  (case g10=>kit_is)
  (case g11=>kit_is)
  (case g12=>kit_is)
  (case g13=>kit_is)
  (case g14=>kit_is)
  (case g15=>kit_is)
  (case g16=>kit_is)
  (case g17=>kit_is)
  (case g18=>kit_is)
  (case g19=>kit_is)
  (case g20=>kit_is)
  (case g21=>kit_is)
  (case g22=>kit_is)
  (case g23=>kit_is)
  (case g24=>kit_is)
  (case g25=>kit_is)
  (case g26=>kit_is)
  (case g27=>kit_is)
  (case g28=>kit_is)
  (case g29=>kit_is)
  (case g30=>kit_is)
  (case g31=>kit_is)
  (case g32=>kit_is)
  (case g33=>kit_is)
  (case g34=>kit_is)
  (case g35=>kit_is)
  (case g36=>kit_is)
  (case g37=>kit_is)
  (case g38=>kit_is)
  (case g39=>kit_is)
  (case g40=>kit_is)
  (case g41=>kit_is)
  (case g42=>kit_is)
  (case g43=>kit_is)
  (case g44=>kit_is)
  (case g45=>kit_is)
  (case g46=>kit_is)
  (case g47=>kit_is)
  (case g48=>kit_is)
  (case g49=>kit_is)
  (case g50=>kit_is)
  (case g51=>kit_is)
  (case g52=>kit_is)
  (case g53=>kit_is)
  (case g54=>kit_is)
  (case g55=>kit_is)
  (case g56=>kit_is)
  (case g57=>kit_is)
  (case g58=>kit_is)
  (case g59=>kit_is)
  (case g60=>kit_is)
  (case g61=>kit_is)
  (case g62=>kit_is)
  (case g63=>kit_is)
  (case g64=>kit_is)
  (case g65=>kit_is)
  (case g66=>kit_is)
  (case g67=>kit_is)
  (case g68=>kit_is)
  (case g69=>kit_is)
  (case g70=>kit_is)
  (case g71=>kit_is)
  (case g72=>kit_is)
