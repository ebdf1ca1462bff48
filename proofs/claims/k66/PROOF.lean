import PyProof.Rows.All
import Wide.All
import OpenK.AllK
import Wide.FinOn
import Lean
import PyProof.EqAt
import PyProof.EqKinds
import PyProof.TupleCall
import PyProof.NeKinds
import PyProof.EnumMake
import PyProof.EnumStmt
import PyProof.LayNew
import KE.KDictLaws
import KE.KDictSum
import KE.LcSums
import PyProof.Rows.SumAny
import PyProof.Rows.SortWalk
import PyProof.DictWalks
import PyProof.Rows.SortRev
import KE.KRevIter
import KE.KIntText
import PyProof.CallStr
import PyProof.StrCalls2
import PyProof.Rows.StrJoin2
import PyProof.StrWalks
import PyProof.Rows.Range3
import PyProof.Rows.MatchSeqLen
import PyProof.Rows.SetFrom
import PyProof.SetRoads
import PyProof.TupleKey
import PyProof.IsRules
import PyProof.Rows.SortShell
import PyProof.Rows.SortRuns
import PySem.Challenge.RW_frameland_k66_folded_sheets
set_option Elab.async false
set_option linter.all false
set_option genSizeOf false
set_option bootstrap.genMatcherCode false
set_option maxRecDepth 100000
local macro_rules | `(tactic| omega) => `(tactic| first | with_reducible assumption | decide | lia | omega (config := {}))
local macro_rules|`(⋯)=>`(by omega)
local macro_rules|`(∅)=>`(by decide+kernel)
local macro_rules|`(tactic|rfl')=>`(tactic|walk_at "wp")
namespace L2
open PySem PySem.Spec PyProof.Rows
noncomputable abbrev Key:=Sum Int Str
noncomputable def xD:Key->Value->Bool
 |.inl k,v=>Value.isInt k v
 |.inr x,v=>Value.isStrOf x v
noncomputable def ZN (w:World):Key->Int
 |.inl k=>hashInt k
 |.inr x=>hashStr w x
theorem qG:∀{k:Key} {v:Value},xD k v=true->(∃i t,k=Sum.inl i/\v=Value.int i t)\/(∃x t,k=Sum.inr x/\v=Value.str x t)
 |.inl i,v,h=>by
  obtain⟨t,e⟩:=Value.isInt_shape (k:=i) (v:=v) h;exact .inl ⟨i,t,rfl,e⟩
 |.inr x,v,h=>by
  obtain⟨t,e⟩:=Value.isStrOf_shape (x:=x) (v:=v) h;exact .inr ⟨x,t,rfl,e⟩
theorem cX (i:Int) (t:Tok):xD (.inl i) (.int i t)=true:=by simp[xD,Value.isInt]
theorem dX (x:Str) (t:Tok):xD (.inr x) (.str x t)=true:=by simp[xD,Value.isStrOf]
theorem gI (a b:Int):decide ((Sum.inl a:Key)=Sum.inl b)=(a == b):=by
 by_cases e:a=b
 ·subst e;simp
 ·have h:¬(Sum.inl a:Key)=Sum.inl b:=λq=>e (Sum.inl.inj q);rw[decide_eq_false h];exact (beq_eq_false_iff_ne.mpr e).symm
theorem iI (a b:Str):decide ((Sum.inr a:Key)=Sum.inr b)=decide (a=b):=by
 by_cases e:a=b
 ·subst e;simp
 ·have h:¬(Sum.inr a:Key)=Sum.inr b:=λq=>e (Sum.inr.inj q);rw[decide_eq_false h,decide_eq_false e]
theorem jI (a:Int) (b:Str):decide ((Sum.inl a:Key)=Sum.inr b)=false:=decide_eq_false (λq=>nomatch q)
theorem kI (a:Str) (b:Int):decide ((Sum.inr a:Key)=Sum.inl b)=false:=decide_eq_false (λq=>nomatch q)
noncomputable def QA (prog:Program) (w:World):PySem.KeyKind prog w Key where
 is:=xD
 hash:=ZN w
 inj:=λv a b ha hb=>by
  rcases qG ha with ⟨i,t,rfl,rfl⟩|⟨x,t,rfl,rfl⟩
  ·rcases qG hb with ⟨j,u,rfl,e⟩|⟨y,u,rfl,e⟩
   ·injection e with e1 _;rw[e1]
   ·exact nomatch e
  ·rcases qG hb with ⟨j,u,rfl,e⟩|⟨y,u,rfl,e⟩
   ·exact nomatch e
   ·injection e with e1 _;rw[e1]
 byValue:=λk v h=>by
  rcases qG h with ⟨i,t,rfl,rfl⟩|⟨x,t,rfl,rfl⟩<;>rfl
 pyHash:=λhv h=>by
  rcases qG hv with ⟨i,t,rfl,rfl⟩|⟨x,t,rfl,rfl⟩
  ·exact wpAny_pyHash_int h
  ·exact wpAny_pyHash_str h
 eqBool:=λhu hv h=>by
  rcases qG hu with ⟨i,t,rfl,rfl⟩|⟨x,t,rfl,rfl⟩
  ·rcases qG hv with ⟨j,u,rfl,rfl⟩|⟨y,u,rfl,rfl⟩
   ·rw[gI] at h;exact wpAny_eqBool_int h
   ·rw[jI] at h;exact SeqAt.EqAt.int_str i t y u _ _ _ _ h
  ·rcases qG hv with ⟨j,u,rfl,rfl⟩|⟨y,u,rfl,rfl⟩
   ·rw[kI] at h;exact SeqAt.EqAt.str_int x t j u _ _ _ _ h
   ·rw[iI] at h;exact wpAny_eqBool_str h
 «strs» :=λk x t v h=>by
  rcases qG h with ⟨i,u,rfl,e⟩|⟨y,u,rfl,e⟩
  ·exact nomatch e
  ·injection e with e1 _;subst e1;cases v<;>rfl
theorem eX (prog:Program) (w:World) (i:Int) (t:Tok):(QA prog w).is (.inl i) (.int i t)=true:=cX i t
theorem fX (prog:Program) (w:World) (x:Str) (t:Tok):(QA prog w).is (.inr x) (.str x t)=true:=dX x t
end L2
namespace L2
open PySem PySem.Spec PyProof.Rows
inductive V where
 |non|bl (b:Bool)|int (i:Int)|str (x:Str)|byt (b:Array UInt8)|flt (b:UInt64)|ref (a:Addr)|ty (n:String)
 deriving DecidableEq
noncomputable def sA:V->Value->Prop
 |.non,u=>u=Value.none
 |.bl b,u=>u=Value.bool b
 |.int i,u=>∃t,u=Value.int i t
 |.str x,u=>∃t,u=Value.str x t
 |.byt b,u=>∃t,u=Value.bytes b t
 |.flt b,u=>∃t,u=Value.float b t
 |.ref a,u=>u=Value.ref a
 |.ty n,u=>u=Value.type n
noncomputable abbrev pA:List V->List Value->Prop:=Paired sA
theorem pA.length {xs:List V} {us:List Value} (r:pA xs us):xs.length=us.length:=Paired.length r
theorem pA.get:∀{xs:List V} {us:List Value} {i:Nat} {x:V},pA xs us->xs[i]?=some x->∃u,us[i]?=some u/\sA x u
 |_,_,_,_,.nil,e=>by simp at e
 |_,_,0,_,.cons r _,e=>by simp at e;subst e;exact⟨_,rfl,r⟩
 |_,_,i+1,x,.cons _ t,e=>by
  obtain⟨u,h1,h2⟩:=pA.get (i:=i) (x:=x) t (by simpa using e);exact⟨u,by simpa using h1,h2⟩
theorem pA.set {x:V} {u:Value} (r:sA x u):∀{xs:List V} {us:List Value} (i:Nat),pA xs us->pA (xs.set i x) (us.set i u)
 |_,_,_,.nil=>.nil
 |_,_,0,.cons _ t=>.cons r t
 |_,_,i+1,.cons q t=>.cons q (pA.set r i t)
theorem pA.append:∀{xs ys:List V} {us ws:List Value},pA xs us->pA ys ws->pA (xs++ys) (us++ws)
 |_,_,_,_,.nil,s=>s
 |_,_,_,_,.cons r t,s=>.cons r (pA.append t s)
theorem pA.take:∀{xs:List V} {us:List Value} (n:Nat),pA xs us->pA (xs.take n) (us.take n)
 |_,_,0,_=>.nil
 |_,_,_+1,.nil=>.nil
 |_,_,n+1,.cons r t=>.cons r (pA.take n t)
theorem pA.drop:∀{xs:List V} {us:List Value} (n:Nat),pA xs us->pA (xs.drop n) (us.drop n)
 |_,_,0,r=>r
 |_,_,_+1,.nil=>.nil
 |_,_,n+1,.cons _ t=>pA.drop n t
noncomputable def vC:Option V->Option Value->Prop
 |some v,some u=>sA v u
 |none,none=>True
 |_,_=>False
noncomputable def KV {κ:Type}:List (κ×V)->List (κ×Value)->Prop:=Paired λ(p:κ×V) (q:κ×Value)=>p.1=q.1/\sA p.2 q.2
noncomputable def kV:Key->V
 |.inl i=>.int i
 |.inr x=>.str x
inductive HO where
 |lst (xs:List V)
 |tup (xs:List V)
 |dK (kvs:List (Key×V))|dT (kvs:List (List Key×V))
 |set (S:Int->Bool) (n:Nat)
 |ins (C dx:Addr) (fs:List (Str×V))
 |own (x:Addr)
 |xd (fs:List (Str×V))
 |met (f x:Addr)
 |rng (lo hi:Int)
 |frz (o:Obj) (u:HO)
 |tbl (ps:Array Value)
 |ext (φ:Heap->Prop)
noncomputable abbrev Hp:=Addr->Option HO
noncomputable def upd (H:Hp) (a:Addr) (o:HO):Hp:=λb=>if b=a then some o else H b
theorem OA {H:Hp} {a:Addr} {o:HO}:upd H a o a=some o:=by unfold upd;rw[if_pos rfl]
theorem oA {H:Hp} {a b:Addr} {o:HO} (h:b≠a):upd H a o b=H b:=by unfold upd;rw[if_neg h]
theorem gX {H:Hp} {a:Addr} {o u:HO}:upd (upd H a o) a u=upd H a u:=by
 funext b;unfold upd;split<;>rfl
theorem bC {H:Hp} {a b:Addr} {o u:HO} (h:H a=some o) (h':H b=some u) (d:o≠u):a≠b:=by
 intro e;subst e;rw[h] at h';exact d (Option.some.inj h')
theorem BB {H:Hp} {a b:Addr} {o:HO} (h:H a=some o) (h':H b=none):a≠b:=by
 intro e;subst e;rw[h] at h';cases h'
section
variable (P:Program) (w:World)
noncomputable def CA (H:Hp) (h:Heap) (a:Addr):HO->Prop
 |.lst xs=>xs.length<=sizeLine/\∃(its:List Value) (n:Nat),pA xs its/\h.get? a=some {cls:=.type "list",data:=.seq its.toArray n}
 |.tup xs=>xs.length<=sizeLine/\∃its:List Value,pA xs its/\IsTup h a its.toArray
 |.dK kvs=>kvs.length<=sizeLine/\(a == sysModules)=false/\∃vs,KV kvs vs/\h.DictOf (QA P w) a vs
 |.dT kvs=>kvs.length<=sizeLine/\(a == sysModules)=false/\∃xs:List (List Key×Addr×Value),
  Paired (λ(p:List Key×V) (q:List Key×Addr×Value)=>p.1=q.1/\H q.2.1=some (.tup (p.1.map kV))/\sA p.2 q.2.2) kvs xs/\
  ∃o es ep,h.get? a=some o/\o.ExactDict/\o.data=.dict es ep/\es.toList=xs.map (entryOfKey (tupleKind (QA P w)))/\(xs.map (·.1)).Nodup
 |.set S n=>h.SetOf (intKind P w) a S n
 |.ins C dx fs=>H dx=some (.own a)/\fs.length<=1000/\dx≠a/\h.get? a=some (PySem.W.instObj C dx)/\
  ∃mA,h.Ns1 dx mA/\(∀f,vC (fs.lookup f) (mA f))/\PySem.Within mA (fs.map (·.1))
 |.own _=>∃o,h.get? a=some o
 |.xd fs=>∃mA,h.Ns1 a mA/\∀f,vC (fs.lookup f) (mA f)
 |.rng lo hi=>∃t u v,h.get? a=some {cls:=.type "range",data:=.fields #[.int lo t,.int hi u,.int 1 v]}
 |.frz o u=>h.get? a=some o/\CA H h a u
 |.tbl ps=>h.get? a=some {cls:=.none,data:=.fields ps}
 |.met f x=>h.get? a=some (PySem.W.methodObj (.ref f) (.ref x))
 |.ext φ=>φ h/\(∃o,h.get? a=some o)/\∀h1 h2:Heap,φ h1->(∀o,h1.get? a=some o->h2.get? a=some o)->φ h2
noncomputable def cC (H:Hp) (h:Heap):Prop:=∀a o,H a=some o->CA P w H h a o
end
section
variable {P:Program} {w:World} {H H':Hp} {h h':Heap} {a:Addr} {o:HO}
theorem CA.lt (x:CA P w H h a o):a < h.objs.size:=by
 cases o with
 |lst xs=>obtain⟨_,_,_,_,e⟩:=x;exact Heap.lt_size e
 |tup xs=>obtain⟨_,_,_,p⟩:=x;exact p.lt
 |dK kvs=>obtain⟨_,_,_,_,o,_,_,e,_⟩:=x;exact Heap.lt_size e
 |dT kvs=>obtain⟨_,_,_,_,o,_,_,e,_⟩:=x;exact Heap.lt_size e
 |set S n=>obtain⟨o,_,_,_,e,_⟩:=x;exact Heap.lt_size e
 |ins C dx fs=>obtain⟨_,_,_,e,_⟩:=x;exact Heap.lt_size e
 |own y=>obtain⟨_,e⟩:=x;exact Heap.lt_size e
 |xd fs=>obtain⟨_,⟨_,_,_,e,_⟩,_⟩:=x;exact Heap.lt_size e
 |rng lo hi=>obtain⟨_,_,_,e⟩:=x;exact Heap.lt_size e
 |frz ob u=>obtain⟨e,_⟩:=x;exact Heap.lt_size e
 |tbl ps=>exact Heap.lt_size (show h.get? a=some _ from x)
 |met f y=>exact Heap.lt_size (show h.get? a=some _ from x)
 |ext φ=>obtain⟨_,⟨_,e⟩,_⟩:=x;exact Heap.lt_size e
theorem Paired.mapP {α β:Type} {F G:α->β->Prop}:∀{l₁:List α} {l₂:List β},Paired F l₁ l₂->(∀a b,F a b->G a b)->Paired G l₁ l₂
 |_,_,.nil,_=>.nil
 |_,_,.cons r t,f=>.cons (f _ _ r) (Paired.mapP t f)
theorem CA.stay (x:CA P w H h a o) (k:∀b u,(b=a\/H b=some (.own a))->h.get? b=some u->h'.get? b=some u)
  (ho:∀b,H b=some (.own a)->H' b=some (.own a)) (ht:∀b xs,H b=some (.tup xs)->H' b=some (.tup xs)):CA P w H' h' a o:=by
 induction o with
 |lst xs=>obtain⟨z,its,n,r,e⟩:=x;exact⟨z,its,n,r,k _ _ (.inl rfl) e⟩
 |tup xs=>obtain⟨z,its,r,ob,e,c⟩:=x;exact⟨z,its,r,ob,k _ _ (.inl rfl) e,c⟩
 |dK kvs=>obtain⟨z,y,vs,r,ob,es,ep,e,c⟩:=x;exact⟨z,y,vs,r,ob,es,ep,k _ _ (.inl rfl) e,c⟩
 |dT kvs=>
  obtain⟨z,y,xs,r,ob,es,ep,e,c⟩:=x;exact⟨z,y,xs,Paired.mapP r λp q z=>⟨z.1,ht _ _ z.2.1,z.2.2⟩,ob,es,ep,k _ _ (.inl rfl) e,c⟩
 |set S n=>obtain⟨ob,es,ep,t,e,c⟩:=x;exact⟨ob,es,ep,t,k _ _ (.inl rfl) e,c⟩
 |ins C dx fs=>
  obtain⟨d,z,ne,e,mA,⟨od,es,ep,e2,c⟩,r⟩:=x;exact⟨ho _ d,z,ne,k _ _ (.inl rfl) e,mA,⟨od,es,ep,k _ _ (.inr d) e2,c⟩,r⟩
 |own y=>obtain⟨ob,e⟩:=x;exact⟨ob,k _ _ (.inl rfl) e⟩
 |xd fs=>obtain⟨mA,⟨od,es,ep,e,c⟩,r⟩:=x;exact⟨mA,⟨od,es,ep,k _ _ (.inl rfl) e,c⟩,r⟩
 |rng lo hi=>obtain⟨t,u,v,e⟩:=x;exact⟨t,u,v,k _ _ (.inl rfl) e⟩
 |frz ob u ih=>obtain⟨e,q⟩:=x;exact⟨k _ _ (.inl rfl) e,ih q⟩
 |tbl ps=>
  have e:h.get? a=some {cls:=.none,data:=.fields ps}:=x;show h'.get? a=some {cls:=.none,data:=.fields ps};exact k a _ (.inl rfl) e
 |met f y=>
  have e:h.get? a=some (PySem.W.methodObj (.ref f) (.ref y)):=x;show h'.get? a=some (PySem.W.methodObj (.ref f) (.ref y));exact k a _ (.inl rfl) e
 |ext φ=>obtain⟨p,⟨o,e⟩,st⟩:=x;exact⟨st _ _ p λo q=>k _ _ (.inl rfl) q,⟨o,k _ _ (.inl rfl) e⟩,st⟩
theorem cC.lt (x:cC P w H h) (e:H a=some o):a < h.objs.size:=(x a o e).lt
theorem cC.fresh (x:cC P w H h) (e:h.objs.size<=a):H a=none:=by
 cases q:H a with
 |none=>rfl
 |some u=>exact absurd (Nat.lt_of_lt_of_le (x.lt q) e) (Nat.lt_irrefl _)
theorem cC.kept (x:cC P w H h) (k:∀b u,h.get? b=some u->h'.get? b=some u):cC P w H h':=λa o e=>
 (x a o e).stay (λb u _ q=>k b u q) (λ_ q=>q) λ_ _ q=>q
theorem cC.laid (x:cC P w H h) (k:∀b u,h.get? b=some u->h'.get? b=some u) (hp:h.objs.size<=a) (new:CA P w (upd H a o) h' a o):cC P w (upd H a o) h':=λb u e=>by
 have hn:=x.fresh hp;by_cases hb:b=a
 ·subst hb;rw[OA] at e;cases e;exact new
 ·rw[oA hb] at e;exact (x b u e).stay (λc v _ q=>k c v q) (λc q=>by rw[oA (BB q hn)];exact q) λc xs q=>by rw[oA (BB q hn)];exact q
end
noncomputable def Rd (H:Hp) (a:Addr) (u:HO):Prop:=H a=some u\/∃o,H a=some (.frz o u)
theorem Rd.of {H:Hp} {a:Addr} {u:HO} (h:H a=some u):Rd H a u:=.inl h
theorem Rd.ok {P:Program} {w:World} {H:Hp} {h:Heap} {a:Addr} {u:HO} (r:Rd H a u) (x:cC P w H h):CA P w H h a u:=by
 rcases r with r|⟨o,r⟩
 ·exact x a u r
 ·obtain⟨_,q⟩:=x a _ r;exact q
noncomputable def FK:Option HO->Prop
 |some (.lst _)=>True
 |some (.dK _)=>True
 |some (.dT _)=>True
 |some (.set _ _)=>True
 |some (.ins _ _ _)=>True
 |some (.ext _)=>True
 |_=>False
section
variable {P:Program} {w:World} {H:Hp} {h h':Heap} {x e:Addr} {o':HO}
theorem cC.write (ok:cC P w H h) (mu:FK (H x)) (he:e=x\/H e=some (.own x)) (k:∀b u,b≠e->h.get? b=some u->h'.get? b=some u) (heo:∃u,h'.get? e=some u)
  (new:CA P w (upd H x o') h' x o'):cC P w (upd H x o') h':=λb u q=>by
 have nown:∀c y,H c=some (.own y)->c≠x:=λc y r z=>by subst z;rw[r] at mu;exact mu
 have ntup:∀c xs,H c=some (.tup xs)->c≠x:=λc xs r z=>by subst z;rw[r] at mu;exact mu
 by_cases hb:b=x
 ·subst hb;rw[OA] at q;cases q;exact new
 ·rw[oA hb] at q;by_cases hbe:b=e
  ·have q':H b=some (.own x):=by
    rcases he with z|z
    ·exact absurd (hbe.trans z) hb
    ·rw[hbe];exact z
   rw[q] at q';cases q';obtain⟨v,hv⟩:=heo;exact⟨v,by rw[hbe];exact hv⟩
  ·refine (ok b u q).stay (λc v hc r=>k c v ?_ r) (λc r=>by rw[oA (nown c b r)];exact r) λc xs r=>by rw[oA (ntup c xs r)];exact r
   rcases hc with rfl|hc
   ·exact hbe
   ·rintro rfl;rcases he with z|z
    ·exact nown c b hc z
    ·rw[hc] at z;cases z;exact hb rfl
end
structure Un (fs ex:List Addr) (H H':Hp) (h h':Heap):Prop where
 keep:∀b o,h.get? b=some o->H b=none->b∉fs->b∉ex->h'.get? b=some o
 slot:∀b o,h.get? b=some o->H b=none->b∈fs->b∉ex->∃sl,h'.get? b=some {o with slots:=sl}
 free:∀b o,h.get? b=some o->H b=none->b∉ex->H' b=none
 there:∀b o,h.get? b=some o->b∉ex->∃o',h'.get? b=some o'
 tups:∀b xs,H b=some (.tup xs)->H' b=some (.tup xs)
 frzs:∀b o u,H b=some (.frz o u)->H' b=some (.frz o u)
 tbls:∀b ps,H b=some (.tbl ps)->∃more,H' b=some (.tbl (ps++more))
section
variable {fs fs' ex ex':List Addr} {H H1 H2:Hp} {h h1 h2 h':Heap} {a x e:Addr} {o:HO}
theorem Un.any (u:Un fs ex H H1 h h1) {b:Addr} {ob:Obj} (q:h.get? b=some ob) (n:H b=none) (hx:b∉ex):∃sl,h1.get? b=some {ob with slots:=sl}:=by
 by_cases hb:b∈fs
 ·exact u.slot b ob q n hb hx
 ·exact⟨ob.slots,u.keep b ob q n hb hx⟩
theorem Un.trans (a:Un fs ex H H1 h h1) (b:Un fs ex H1 H2 h1 h2):Un fs ex H H2 h h2 where
 keep:=λc ob q n hc hx=>b.keep c ob (a.keep c ob q n hc hx) (a.free c ob q n hx) hc hx
 slot:=λc ob q n hc hx=>by
  obtain⟨sl,e1⟩:=a.slot c ob q n hc hx;obtain⟨sl',e2⟩:=b.slot c _ e1 (a.free c ob q n hx) hc hx;exact⟨sl',e2⟩
 free:=λc ob q n hx=>by
  obtain⟨o',e1⟩:=a.there c ob q hx;exact b.free c o' e1 (a.free c ob q n hx) hx
 there:=λc ob q hx=>by
  obtain⟨o',e1⟩:=a.there c ob q hx;exact b.there c o' e1 hx
 tups:=λc xs q=>b.tups c xs (a.tups c xs q)
 frzs:=λc ob xs q=>b.frzs c ob xs (a.frzs c ob xs q)
 tbls:=λc ps q=>by
  obtain⟨m1,e1⟩:=a.tbls c ps q;obtain⟨m2,e2⟩:=b.tbls c _ e1;exact⟨m1++m2,by rw[e2,Array.append_assoc]⟩
theorem Un.kept (k:∀b u,h.get? b=some u->h'.get? b=some u):Un fs ex H H h h':=
 ⟨λb ob q _ _ _=>k b ob q,λb ob q _ _ _=>⟨ob.slots,k b ob q⟩,λ_ _ _ n _=>n,λb ob q _=>⟨ob,k b ob q⟩,λ_ _ q=>q,λ_ _ _ q=>q,λ_ ps q=>⟨#[],by rw[q];simp⟩⟩
theorem Un.refl:Un fs ex H H h h:=Un.kept λ_ _ q=>q
theorem Un.laid (k:∀b u,h.get? b=some u->h'.get? b=some u) (hp:h.objs.size<=a) (hn:H a=none):Un fs ex H (upd H a o) h h' where
 keep:=λb u q _ _ _=>k b u q
 slot:=λb u q _ _ _=>⟨u.slots,k b u q⟩
 free:=λb u q n _=>by rw[oA (Nat.ne_of_lt (Nat.lt_of_lt_of_le (Heap.lt_size q) hp))];exact n
 there:=λb u q _=>⟨u,k b u q⟩
 tups:=λb xs q=>by rw[oA (BB q hn)];exact q
 frzs:=λb u xs q=>by rw[oA (BB q hn)];exact q
 tbls:=λb ps q=>⟨#[],by rw[oA (BB q hn),q];simp⟩
theorem Un.write (mu:FK (H x)) (he:e=x\/H e=some (.own x)) (k:∀b u,b≠e->h.get? b=some u->h'.get? b=some u) (heo:∃u,h'.get? e=some u):Un fs ex H (upd H x o) h h':=by
 have hx:∀b,H b=none->b≠x:=λb n z=>by subst z;rw[n] at mu;exact mu
 have hb:∀b,H b=none->b≠e:=λb n z=>by
  subst z;rcases he with r|r
  ·exact hx b n r
  ·rw[n] at r;cases r
 have hm:∀b u,H b=some u->¬FK (some u)->b≠x:=λb u q nm z=>by subst z;rw[q] at mu;exact nm mu
 refine⟨λb u q n _ _=>k b u (hb b n) q,λb u q n _ _=>⟨u.slots,k b u (hb b n) q⟩,λb u q n _=>by rw[oA (hx b n)];exact n,λb u q _=>?_,
  λb xs q=>by rw[oA (hm b _ q λz=>z)];exact q,λb u xs q=>by rw[oA (hm b _ q λz=>z)];exact q,λb ps q=>⟨#[],by rw[oA (hm b _ q λz=>z),q];simp⟩⟩
 by_cases hbe:b=e
 ·subst hbe;exact heo
 ·exact⟨u,k b u hbe q⟩
theorem Un.mono (u:Un fs ex H H1 h h1) (hs:∀b∈fs,b∈fs') (hx:∀b∈ex,b∈ex'):Un fs' ex' H H1 h h1:=
 ⟨λb ob q n hb he=>u.keep b ob q n (λz=>hb (hs b z)) λz=>he (hx b z),λ_ _ q n _ he=>u.any q n λz=>he (hx _ z),λb ob q n he=>u.free b ob q n λz=>he (hx b z),λb ob q he=>u.there b ob q λz=>he (hx b z),u.tups,u.frzs,u.tbls⟩
end
noncomputable def trk (h:Heap) (H:Hp):List Addr:=(List.range h.objs.size).filter λa=>(H a).isSome
noncomputable def ID (h:Heap) (H:Hp):Heap:=PySem.W.hideAll h (trk h H)
theorem iX (h:Heap) (H:Hp):(ID h H).objs.size=h.objs.size:=PySem.W.hideAll_size _ _
theorem jX {h:Heap} {H:Hp} {b:Addr} {o:Obj} (e:h.get? b=some o) (n:H b=none):(ID h H).get? b=some o:=
 PySem.W.hideAll_get _ e λhm=>by
  have q:(H b).isSome=true:=(List.mem_filter.mp hm).2;rw[n] at q;simp at q
theorem kX {h:Heap} {H:Hp} {b:Addr} {o:Obj} (e:(ID h H).get? b=some o):h.get? b=some o/\H b=none:=by
 have e':h.get? b=some o:=PySem.W.of_hideAll (trk h H) e;refine⟨e',?_⟩;cases q:H b with
 |none=>rfl
 |some x=>
  have hm:b∈trk h H:=List.mem_filter.mpr ⟨List.mem_range.mpr (Heap.lt_size e'),by simp[q]⟩;have z:(ID h H).get? b=none:=PySem.W.hideAll_none (trk h H) hm;rw[z] at e;cases e
noncomputable def rG (g h:Heap) (L:Addr):List (Addr×Obj):=(List.range h.objs.size).filterMap λa=>if a=L\/(g.get? a).isSome=true then none else (h.get? a).map λo=>(a,o)
noncomputable def rest (g h:Heap) (L d:Addr):List (Addr×Obj):=(rG g h L).filter λp=>decide (p.1≠d)
end L2
namespace L2
open PySem PySem.Spec PyProof.Rows
structure Mod (K:PySem.W.Frag) (mg:Str->Option Value) (base:Heap):Prop where
 kin:K.In base
 glob:base.Ns mainGlobals mg
 blt:∃mb,base.Ns builtinsNs mb/\∀x:Str,x≠"__name__"->mb x=bootBuiltins x
 nolimit:base.NoLimit
set_option genInjectivity false in
structure Cx where
 prog:Program
 w:World
 K:PySem.W.Frag
 mg:Str->Option Value
 base:Heap
 A:Around
 N:List Str
 s₀:Shared
 H₀:Hp
 env:Env
 outer:List Env
 stack:List Env
 ex:List Addr
 fn:Str->Bool
 calm:Bool
 pn:List (Addr×Obj)
 xe:Value->Shared->Prop
noncomputable def QB (l:List Env):List Addr:=l.filterMap (·.frame)
noncomputable abbrev Cx.fs (X:Cx):List Addr:=QB X.outer
noncomputable def aO (sc:Scope) (x:Str):Prop:=sc.names.lookup x=some .local\/sc.names.lookup x=some .cell\/sc.names.lookup x=some .free
noncomputable def JM (sc:Scope) (x:Str):Prop:=sc.names.lookup x=some .local\/sc.names.lookup x=some .cell
noncomputable def bO (env:Env) (h:Heap) (m:Str->Option Value) (x:Str) (u:Value):Prop:=
 (env.kindOf x=some .local/\m x=some u)\/((env.kindOf x=some .cell\/env.kindOf x=some .free)/\∃c,env.cells.lookup x=some c/\h.IsCell c (some u))
structure Cx.Ok (X:Cx):Prop where
 mod:Mod X.K X.mg X.base
 kind:X.env.scope.kind=.function
 glob:X.env.globals=mainGlobals
 blt:X.env.builtins=builtinsNs
 above:X.s₀.heap.objs.size<=X.env.locals
 inj:∀x y c,X.env.cells.lookup x=some c->X.env.cells.lookup y=some c->x=y
 has:∀x,(X.env.kindOf x=some .cell\/X.env.kindOf x=some .free)->∃c,X.env.cells.lookup x=some c
 cab:∀x c,X.fn x=true->X.env.cells.lookup x=some c->X.s₀.heap.objs.size<=c
 hd:X.calm=true->X.A.handled=none
 frames:X.A.frames=some X.stack
 stk:X.stack=X.outer\/(X.stack=X.env::X.outer/\X.env.frame=some X.env.locals)
 exf:∀b∈X.ex,b≠X.env.locals/\∀x c,X.env.cells.lookup x=some c->c≠b
 bs:∀b o,X.base.get? b=some o->X.s₀.heap.get? b=some o/\X.H₀ b=none
 bsz:X.base.objs.size<=X.s₀.heap.objs.size
 noex:∀b o,X.base.get? b=some o->b∉X.ex
 exfs:∀b∈X.ex,b∉X.fs
 funs:X.s₀.heap.FunFrames X.base X.outer
 frf:∀b∈X.fs,X.H₀ b=none
structure jA (X:Cx) (pins:List (Addr×Obj)) (σ:List (Option V)) (H:Hp) (s:Shared):Prop where
 ok:X.Ok
 os:s.os=X.s₀.os
 bare:AllBare s.gens
 base:Un X.fs X.ex X.H₀ H X.s₀.heap s.heap
 loc:∃m,s.heap.Ns X.env.locals m/\∀(i:Nat) (x:Str) (v:V),X.N[i]?=some x->σ[i]?=some (some v)->aO X.env.scope x->∃u,sA v u/\bO X.env s.heap m x u
 cell:∀x c,X.env.cells.lookup x=some c->∃v,s.heap.IsCell c v
 free:H X.env.locals=none
 freeC:∀x c,X.env.cells.lookup x=some c->H c=none
 pin:∀p∈X.pn++pins,s.heap.get? p.1=some p.2/\H p.1=none/\p.1≠X.env.locals/\p.1∉X.fs/\∀v,p.2.data≠.cell v
 hok:cC X.prog X.w H s.heap
 len:σ.length=X.N.length
section
variable {X:Cx} {pins:List (Addr×Obj)} {σ:List (Option V)} {H H':Hp} {s:Shared} {h':Heap}
theorem Cx.Ok.nofr (ok:X.Ok) {b:Addr} {o:Obj} (e:X.base.get? b=some o):b∉X.fs:=λhb=>by
 have:=(ok.funs.mem hb).1;rw[e] at this;cases this
theorem jA.bs (I:jA X pins σ H s):∀b o,X.base.get? b=some o->s.heap.get? b=some o/\H b=none:=λb o e=>
 ⟨I.base.keep b o (I.ok.bs b o e).1 (I.ok.bs b o e).2 (I.ok.nofr e) (I.ok.noex b o e),I.base.free b o (I.ok.bs b o e).1 (I.ok.bs b o e).2 (I.ok.noex b o e)⟩
theorem jA.bk (I:jA X pins σ H s):∀b o,X.base.get? b=some o->s.heap.get? b=some o:=λb o e=>(I.bs b o e).1
theorem jA.mod (I:jA X pins σ H s):Mod X.K X.mg X.base:=I.ok.mod
theorem jA.kIn (I:jA X pins σ H s):X.K.In s.heap:=I.ok.mod.kin.keeps I.bk
theorem jA.fr (I:jA X pins σ H s):∃m,Fr X.base X.env.locals s.heap m:=
 let ⟨m,hn,_⟩:=I.loc
 ⟨m,hn,I.bk,Nat.le_trans I.ok.bsz I.ok.above⟩
theorem jA.lt (I:jA X pins σ H s):X.env.locals < s.heap.objs.size:=let ⟨_,hn,_⟩:=I.loc;hn.lt
theorem jA.sz (I:jA X pins σ H s):X.s₀.heap.objs.size<=s.heap.objs.size:=Nat.le_trans I.ok.above (Nat.le_of_lt I.lt)
theorem jA.nofs (I:jA X pins σ H s) {a:Addr} (h:s.heap.objs.size<=a):a∉X.fs:=λhb=>by
 obtain⟨_,o,ho,_⟩:=I.ok.funs.mem hb;exact absurd (Nat.lt_of_lt_of_le (Heap.lt_size ho) (Nat.le_trans I.sz h)) (Nat.lt_irrefl _)
theorem jA.cne (I:jA X pins σ H s):∀x c,X.env.cells.lookup x=some c->c≠X.env.locals:=λx c e z=>by
 obtain⟨v,o,ho,hd⟩:=I.cell x c e;obtain⟨m,⟨o',es,ep,ho',hd',_⟩,_⟩:=I.loc;rw[z,ho'] at ho;cases ho;rw[hd'] at hd;cases hd
theorem jA.funs (I:jA X pins σ H s):s.heap.FunFrames X.base X.outer:=by
 have all:∀(l:List Env),(∀b∈QB l,b∈X.fs)->X.s₀.heap.FunFrames X.base l->s.heap.FunFrames X.base l:=by
  intro l
  induction l with
  |nil=>intro _ _;trivial
  |cons env r ih=>
   intro hs hl;obtain⟨hk,⟨L,o,hf,hn,ho,hd⟩,hr⟩:=hl;have hL:L∈X.fs:=hs L (by unfold QB;rw[List.filterMap_cons,hf];exact List.mem_cons_self);obtain⟨sl,e⟩:=I.base.slot L o ho (I.ok.frf L hL) hL λz=>I.ok.exfs L z hL;exact⟨hk,⟨L,_,hf,hn,e,hd⟩,ih (λb hb=>hs b (by unfold QB;rw[List.filterMap_cons,hf];exact List.mem_cons_of_mem _ hb)) hr⟩
 exact all X.outer (λ_ hb=>hb) I.ok.funs
theorem jA.stack (I:jA X pins σ H s):s.heap.FunFrames X.base X.stack:=by
 rcases I.ok.stk with e|⟨e,hf⟩
 ·rw[e];exact I.funs
 ·rw[e];obtain⟨m,hn,_⟩:=I.loc;refine .cons (by rw[I.ok.kind];decide) hf hn ?_ I.funs;exact Heap.get?_none_of_le (Nat.le_trans I.ok.bsz I.ok.above)
theorem jA.stkSub (I:jA X pins σ H s):∀b∈QB X.stack,b∈X.env.locals::X.fs:=λb hb=>by
 rcases I.ok.stk with e|⟨e,hf⟩
 ·rw[e] at hb;exact List.mem_cons_of_mem _ hb
 ·rw[e] at hb;unfold QB at hb;rw[List.filterMap_cons,hf] at hb;exact hb
theorem jA.stkFree (I:jA X pins σ H s):∀b∈QB X.stack,H b=none:=λb hb=>by
 rcases List.mem_cons.mp (I.stkSub b hb) with e|hb
 ·rw[e];exact I.free
 ·obtain⟨_,o,ho,_⟩:=I.ok.funs.mem hb;exact I.base.free b o ho (I.ok.frf b hb) λz=>I.ok.exfs b z hb
theorem jA.step {g':Array GenState} {t':Nat} {d':Drawn} {ch:List Addr} (I:jA X pins σ H s)
  (hch:∀b∈ch,(b∈X.ex\/X.s₀.heap.objs.size<=b)/\b≠X.env.locals/\(∀x c,X.env.cells.lookup x=some c->c≠b)/\∀p∈X.pn++pins,p.1≠b)
  (keep:∀b o,b≠X.env.locals->b∉X.fs->b∉ch->s.heap.get? b=some o->H b=none->h'.get? b=some o)
  (slot:∀b o,b≠X.env.locals->b∈X.fs->b∉ch->s.heap.get? b=some o->H b=none->∃sl,h'.get? b=some {o with slots:=sl}) (free:∀b o,b∉ch->s.heap.get? b=some o->H b=none->H' b=none)
  (there:∀b o,b∉ch->s.heap.get? b=some o->∃o',h'.get? b=some o')
  (tups:∀b xs,H b=some (.tup xs)->H' b=some (.tup xs)) (frzs:∀b o u,H b=some (.frz o u)->H' b=some (.frz o u)) (tbls:∀b ps,H b=some (.tbl ps)->∃more,H' b=some (.tbl (ps++more)))
  (ns:∀m,s.heap.Ns X.env.locals m->h'.Ns X.env.locals m) (hok:cC X.prog X.w H' h') (hg:AllBare g'):
  jA X pins σ H' {s with heap:=h',gens:=g',drawn:=d',toks:=t'}:=by
 have neL:∀b o,X.s₀.heap.get? b=some o->b≠X.env.locals:=λb o e=>Nat.ne_of_lt (Nat.lt_of_lt_of_le (Heap.lt_size e) I.ok.above);have neC:∀b o,X.s₀.heap.get? b=some o->b∉X.ex->b∉ch:=λb o e hx hb=>by
  rcases (hch b hb).1 with z|z
  ·exact hx z
  ·exact absurd (Nat.lt_of_lt_of_le (Heap.lt_size e) z) (Nat.lt_irrefl _)
 have cellK:∀x c,X.env.cells.lookup x=some c->∀v,s.heap.IsCell c v->h'.IsCell c v:=λx c e v ⟨o,ho,hd⟩=>by
  have nch:c∉ch:=λz=>(hch c z).2.2.1 x c e rfl;by_cases hc:c∈X.fs
  ·obtain⟨sl,q⟩:=slot c o (I.cne x c e) hc nch ho (I.freeC x c e);exact⟨_,q,hd⟩
  ·exact⟨o,keep c o (I.cne x c e) hc nch ho (I.freeC x c e),hd⟩
 refine⟨I.ok,I.os,hg,⟨λb o e n hb hx=>?_,λb o e n hb hx=>?_,λb o e n hx=>?_,λb o e hx=>?_,λb xs e=>tups b xs (I.base.tups b xs e),λb o xs e=>frzs b o xs (I.base.frzs b o xs e),λb ps e=>?_⟩,?_,λx c e=>?_,?_,λx c e=>?_,λp hp=>?_,hok,I.len⟩
 ·exact keep b o (neL b o e) hb (neC b o e hx) (I.base.keep b o e n hb hx) (I.base.free b o e n hx)
 ·obtain⟨sl,e1⟩:=I.base.slot b o e n hb hx;obtain⟨sl',e2⟩:=slot b _ (neL b o e) hb (neC b o e hx) e1 (I.base.free b o e n hx);exact⟨sl',e2⟩
 ·obtain⟨o',e1⟩:=I.base.there b o e hx;exact free b o' (neC b o e hx) e1 (I.base.free b o e n hx)
 ·obtain⟨o',e1⟩:=I.base.there b o e hx;exact there b o' (neC b o e hx) e1
 ·obtain⟨m1,e1⟩:=I.base.tbls b ps e;obtain⟨m2,e2⟩:=tbls b _ e1;exact⟨m1++m2,by rw[e2,Array.append_assoc]⟩
 ·obtain⟨m,hn,hl⟩:=I.loc;refine⟨m,ns m hn,λi x v e1 e2 e3=>?_⟩;obtain⟨u,r,l⟩:=hl i x v e1 e2 e3;refine⟨u,r,?_⟩;rcases l with l|⟨k,c,e,z⟩
  ·exact .inl l
  ·exact .inr ⟨k,c,e,cellK x c e _ z⟩
 ·obtain⟨v,z⟩:=I.cell x c e;exact⟨v,cellK x c e v z⟩
 ·obtain⟨m,⟨o,_,_,ho,_⟩,_⟩:=I.loc;exact free _ o (λz=>(hch _ z).2.1 rfl) ho I.free
 ·obtain⟨v,o,ho,hd⟩:=I.cell x c e;exact free c o (λz=>(hch c z).2.2.1 x c e rfl) ho (I.freeC x c e)
 ·obtain⟨e,n,ne,nf,d⟩:=I.pin p hp;have nch:p.1∉ch:=λz=>(hch p.1 z).2.2.2 p hp rfl;exact⟨keep p.1 p.2 ne nf nch e n,free p.1 p.2 nch e n,ne,nf,d⟩
theorem jA.un {t':Nat} (I:jA X pins σ H s) (u:Un X.fs [] H H' s.heap h') (hok:cC X.prog X.w H' h'):jA X pins σ H' {s with heap:=h',toks:=t'}:=by
 obtain⟨m,⟨o,es,ep,ho,r⟩,_⟩:=id I.loc;obtain⟨sl,hL⟩:=u.any ho I.free (by simp);exact I.step (g':=s.gens) (d':=s.drawn) (ch:=[]) (λ_ z=>nomatch z) (λb o _ hb _ e n=>u.keep b o e n hb (by simp)) (λb o _ hb _ e n=>u.slot b o e n hb (by simp)) (λb o _ e n=>u.free b o e n (by simp)) (λb o _ e=>u.there b o e (by simp)) u.tups u.frzs u.tbls (λm' hm=>by
  obtain⟨o',es',ep',ho',r'⟩:=hm;rw[ho] at ho';cases ho';exact⟨_,es',ep',hL,r'⟩) hok I.bare
theorem jA.call {g':Array GenState} {t':Nat} {d':Drawn} {ch:List Addr} (I:jA X pins σ H s) (u:Un (QB X.stack) ch H H' s.heap h') (hok:cC X.prog X.w H' h') (hg:AllBare g')
  (hch:∀b∈ch,(b∈X.ex\/X.s₀.heap.objs.size<=b)/\b≠X.env.locals/\(∀x c,X.env.cells.lookup x=some c->c≠b)/\∀p∈X.pn++pins,p.1≠b):
  jA X pins σ H' {s with heap:=h',gens:=g',drawn:=d',toks:=t'}:=by
 obtain⟨m,⟨o,es,ep,ho,r⟩,_⟩:=id I.loc;obtain⟨sl,hL⟩:=u.any ho I.free λz=>(hch _ z).2.1 rfl;exact I.step (ch:=ch) hch (λb o hL hb hc e n=>u.keep b o e n (λz=>(List.mem_cons.mp (I.stkSub b z)).elim hL hb) hc) (λb o _ _ hc e n=>u.any e n hc) (λb o hc e n=>u.free b o e n hc) (λb o hc e=>u.there b o e hc) u.tups u.frzs u.tbls (λm' hm=>by
  obtain⟨o',es',ep',ho',r'⟩:=hm;rw[ho] at ho';cases ho';exact⟨_,es',ep',hL,r'⟩) hok hg
theorem jA.turned {t':Nat} {it:Addr} (I:jA X pins σ H s) (k:∀b o,b≠it->s.heap.get? b=some o->h'.get? b=some o) (hn:H it=none) (hL:it≠X.env.locals)
  (h1:it∈X.ex\/X.s₀.heap.objs.size<=it) (h2:∀x c,X.env.cells.lookup x=some c->c≠it) (h3:∀p∈X.pn++pins,p.1≠it):jA X pins σ H {s with heap:=h',toks:=t'}:=by
 have nit:∀b u,H b=some u->b≠it:=λb u e z=>by rw[z,hn] at e;cases e
 refine I.step (g':=s.gens) (d':=s.drawn) (ch:=[it]) (λb hb=>?_) (λb o _ _ hc e _=>k b o (λz=>hc (by simp[z])) e) (λb o _ _ hc e _=>⟨o.slots,k b o (λz=>hc (by simp[z])) e⟩) (λ_ _ _ _ n=>n)
  (λb o hc e=>⟨o,k b o (λz=>hc (by simp[z])) e⟩) (λ_ _ e=>e) (λ_ _ _ e=>e) (λb ps e=>⟨#[],by rw[e];simp⟩) (λm hm=>?_) (λb u e=>?_) I.bare
 ·have e:b=it:=by simpa using hb
  subst e;exact⟨h1,hL,h2,h3⟩
 ·obtain⟨o,es,ep,ho,r⟩:=hm;exact⟨o,es,ep,k _ o (Ne.symm hL) ho,r⟩
 ·refine (I.hok b u e).stay (λc v hc q=>k c v ?_ q) (λ_ q=>q) λ_ _ q=>q;rcases hc with z|z
  ·rw[z];exact nit b u e
  ·exact nit c _ z
theorem jA.tok (I:jA X pins σ H s) (t:Nat):jA X pins σ H {s with toks:=t}:=I.un (h':=s.heap) (t':=t) Un.refl I.hok
theorem jA.kept {t':Nat} (I:jA X pins σ H s) (k:∀b u,s.heap.get? b=some u->h'.get? b=some u):jA X pins σ H {s with heap:=h',toks:=t'}:=I.un (Un.kept k) (I.hok.kept k)
theorem jA.laid {a:Addr} {o:HO} {t':Nat} (I:jA X pins σ H s) (k:∀b u,s.heap.get? b=some u->h'.get? b=some u) (hp:s.heap.objs.size<=a) (new:CA X.prog X.w (upd H a o) h' a o):
 jA X pins σ (upd H a o) {s with heap:=h',toks:=t'}:=I.un (Un.laid k hp (I.hok.fresh hp)) (I.hok.laid k hp new)
theorem jA.write {x e:Addr} {o:HO} {t':Nat} (I:jA X pins σ H s) (mu:FK (H x)) (he:e=x\/H e=some (.own x)) (k:∀b u,b≠e->s.heap.get? b=some u->h'.get? b=some u) (heo:∃u,h'.get? e=some u)
 (new:CA X.prog X.w (upd H x o) h' x o):jA X pins σ (upd H x o) {s with heap:=h',toks:=t'}:=I.un (Un.write mu he k heo) (I.hok.write mu he k heo new)
theorem jA.pins_of {pins':List (Addr×Obj)} (I:jA X pins σ H s) (h:∀p∈pins',s.heap.get? p.1=some p.2/\H p.1=none/\p.1≠X.env.locals/\p.1∉X.fs/\∀v,p.2.data≠.cell v):jA X pins' σ H s:=
 ⟨I.ok,I.os,I.bare,I.base,I.loc,I.cell,I.free,I.freeC,λp hp=>(List.mem_append.mp hp).elim (λz=>I.pin p (List.mem_append_left _ z)) (h p),I.hok,I.len⟩
theorem MT {N:List Str} (hN:N.Nodup) {i j:Nat} {x:Str} (a:N[i]?=some x) (b:N[j]?=some x):i=j:=by
 obtain⟨h1,e1⟩:=List.getElem?_eq_some_iff.mp a;obtain⟨h2,e2⟩:=List.getElem?_eq_some_iff.mp b;exact (List.getElem_inj hN).mp (e1.trans e2.symm)
theorem NT {M:Model} {A:Around} {E:Value->Shared->Prop} {i:Nat} {x:Str} {v:V} {u:Value} {Q:Unit->Shared->Prop} (I:jA X pins σ H s) (hN:X.N.Nodup) (hi:X.N[i]?=some x) (hx:JM X.env.scope x) (r:sA v u)
  (h:∀s',jA X pins (σ.set i (some v)) H s'->(∃a,Heap.SameBut a s.heap s'.heap/\(a=X.env.locals\/X.env.cells.lookup x=some a))->Q () s') (hf:X.fn x=true\/X.env.scope.names.lookup x=some .local:=by first|exact .inl rfl|exact .inr rfl|assumption):wpAny M A (storeName X.env x u) Q E s:=by
 obtain⟨m,hn,hl⟩:=id I.loc;have hcls:(X.env.scope.kind == .class || (X.env.scope.kind == .module&&X.env.locals != X.env.globals))=false:=by rw[I.ok.kind];rfl
 have hiσ:i < σ.length:=by rw[I.len];exact (List.getElem?_eq_some_iff.mp hi).1
 have cne:=I.cne;have tracked:∀{a:Addr} {h':Heap},(∃o,s.heap.get? a=some o/\H a=none)->Heap.SameBut a s.heap h'->cC X.prog X.w H h':=λ{a h'} ha hs b ob e=>by
  obtain⟨_,_,hfree⟩:=ha;refine (I.hok b ob e).stay (λc w' hc q=>(hs.2 c ?_).trans q) (λ_ q=>q) λ_ _ q=>q;rintro rfl;rcases hc with rfl|hc
  ·rw[hfree] at e;cases e
  ·rw[hfree] at hc;cases hc
 rcases hx with hk|hk
 ·refine wpAny_storeName_local hk hn (λh' hn' hs=>?_) hcls;obtain⟨oL,_,_,hoL,_⟩:=id hn;refine h _ ⟨I.ok,I.os,I.bare,⟨λb o e n hb hx=>?_,λb o e n hb hx=>?_,I.base.free,λb o e hx=>?_,I.base.tups,I.base.frzs,I.base.tbls⟩,⟨_,hn',λj y v' e1 e2 e3=>?_⟩,λy c e=>?_,I.free,I.freeC,λp hp=>?_,tracked ⟨oL,hoL,I.free⟩ hs,by simpa using I.len⟩ ⟨_,hs,.inl rfl⟩
  ·exact (hs.2 b (Nat.ne_of_lt (Nat.lt_of_lt_of_le (Heap.lt_size e) I.ok.above))).trans (I.base.keep b o e n hb hx)
  ·obtain⟨sl,e1⟩:=I.base.slot b o e n hb hx;exact⟨sl,(hs.2 b (Nat.ne_of_lt (Nat.lt_of_lt_of_le (Heap.lt_size e) I.ok.above))).trans e1⟩
  ·obtain⟨o',e1⟩:=I.base.there b o e hx;exact⟨o',(hs.2 b (Nat.ne_of_lt (Nat.lt_of_lt_of_le (Heap.lt_size e) I.ok.above))).trans e1⟩
  ·by_cases hj:j=i
   ·subst hj;rw[hi] at e1;cases e1;rw[List.getElem?_set_self hiσ] at e2;cases e2;exact⟨u,r,.inl ⟨hk,by simp⟩⟩
   ·rw[List.getElem?_set_ne (Ne.symm hj)] at e2;obtain⟨u',r',q⟩:=hl j y v' e1 e2 e3;refine⟨u',r',?_⟩;rcases q with ⟨k,e⟩|⟨k,c,e,z⟩
    ·refine .inl ⟨k,?_⟩;have:y≠x:=λe=>hj (MT hN e1 (e ▸ hi));simp[this,e]
    ·exact .inr ⟨k,c,e,z.sameBut hs (cne y c e)⟩
  ·obtain⟨w',z⟩:=I.cell y c e;exact⟨w',z.sameBut hs (cne y c e)⟩
  ·obtain⟨e,n,ne,nf,d⟩:=I.pin p hp;exact⟨(hs.2 p.1 ne).trans e,n,ne,nf,d⟩
 ·have hfn:X.fn x=true:=by
   rcases hf with z|z
   ·exact z
   ·rw[z] at hk;cases hk
  obtain⟨c,hc⟩:=I.ok.has x (.inl hk);obtain⟨w',z⟩:=I.cell x c hc;refine wpAny_storeName_cell I.ok.kind hk hc z (λh' hc' hs=>?_);obtain⟨oc,hoc,hocd⟩:=id z;refine h {s with heap:=h'} ⟨I.ok,I.os,I.bare,⟨λb o e n hb hx=>?_,λb o e n hb hx=>?_,I.base.free,λb o e hx=>?_,I.base.tups,I.base.frzs,I.base.tbls⟩,⟨m,hn.sameBut hs (Ne.symm (cne x c hc)),λj y v' e1 e2 e3=>?_⟩,λy c' e=>?_,I.free,I.freeC,λp hp=>?_,tracked ⟨oc,hoc,I.freeC x c hc⟩ hs,by simpa using I.len⟩ ⟨c,hs,.inr hc⟩
  ·exact (hs.2 b (Nat.ne_of_lt (Nat.lt_of_lt_of_le (Heap.lt_size e) (I.ok.cab x c hfn hc)))).trans (I.base.keep b o e n hb hx)
  ·obtain⟨sl,e1⟩:=I.base.slot b o e n hb hx;exact⟨sl,(hs.2 b (Nat.ne_of_lt (Nat.lt_of_lt_of_le (Heap.lt_size e) (I.ok.cab x c hfn hc)))).trans e1⟩
  ·obtain⟨o',e1⟩:=I.base.there b o e hx;exact⟨o',(hs.2 b (Nat.ne_of_lt (Nat.lt_of_lt_of_le (Heap.lt_size e) (I.ok.cab x c hfn hc)))).trans e1⟩
  ·by_cases hj:j=i
   ·subst hj;rw[hi] at e1;cases e1;rw[List.getElem?_set_self hiσ] at e2;cases e2;exact⟨u,r,.inr ⟨.inl hk,c,hc,hc'⟩⟩
   ·rw[List.getElem?_set_ne (Ne.symm hj)] at e2;obtain⟨u',r',q⟩:=hl j y v' e1 e2 e3;refine⟨u',r',?_⟩;rcases q with q|⟨k,c',e,z'⟩
    ·exact .inl q
    ·refine .inr ⟨k,c',e,z'.sameBut hs ?_⟩;rintro rfl;exact hj (MT hN e1 (I.ok.inj _ _ _ e hc ▸ hi))
  ·by_cases hcc:c'=c
   ·subst hcc;exact⟨_,hc'⟩
   ·obtain⟨w2,z2⟩:=I.cell y c' e;exact⟨w2,z2.sameBut hs hcc⟩
  ·obtain⟨e,n,ne,nf,d⟩:=I.pin p hp;refine⟨(hs.2 p.1 ?_).trans e,n,ne,nf,d⟩;intro q;rw[q,hoc] at e;have q':oc=p.2:=Option.some.inj e;exact d w' (by rw[<-q'];exact hocd)
theorem OT {M:Model} {A:Around} {E:Value->Shared->Prop} {i:Nat} {x:Str} {v:V} {u:Value} {Q:Unit->Shared->Prop} (I:jA X pins σ H s) (hN:X.N.Nodup) (hi:X.N[i]?=some x) (hx:JM X.env.scope x) (r:sA v u)
  (h:∀s',jA X pins (σ.set i (some v)) H s'->Q () s') (hf:X.fn x=true\/X.env.scope.names.lookup x=some .local:=by first|exact .inl rfl|exact .inr rfl|assumption):wpAny M A (storeName X.env x u) Q E s:=
 NT I hN hi hx r (λs' I' _=>h s' I') hf
theorem jA.call' {s':Shared} {ch:List Addr} (I:jA X pins σ H s) (ho:s'.os=s.os) (u:Un (QB X.stack) ch H H' s.heap s'.heap) (hok:cC X.prog X.w H' s'.heap) (hg:AllBare s'.gens)
  (hch:∀b∈ch,(b∈X.ex\/X.s₀.heap.objs.size<=b)/\b≠X.env.locals/\(∀x c,X.env.cells.lookup x=some c->c≠b)/\∀p∈X.pn++pins,p.1≠b):jA X pins σ H' s':=by
 obtain⟨h',g',d',t',o'⟩:=s';have e:o'=s.os:=ho;subst e;exact I.call (g':=g') (t':=t') (d':=d') u hok hg hch
end
noncomputable abbrev XK:=Value->Option Addr->Hp->Prop
noncomputable abbrev St:=List (Option V)
noncomputable abbrev VK:=V->Hp->Prop
noncomputable abbrev TE:=St->Hp->VK->Prop
noncomputable abbrev TT:=St->Hp->(Bool->Hp->Prop)->Prop
noncomputable abbrev TA:=St->Hp->(List V->Hp->Prop)->Prop
set_option genInjectivity false in
structure fC where
 nx:St->Hp->Prop
 rt:VK
 bk:St->Hp->Prop:=λ_ _=>False
 ct:St->Hp->Prop:=λ_ _=>False
noncomputable abbrev TS:=fC->St->Hp->Prop
noncomputable def EP (X:Cx) (pins:List (Addr×Obj)) (σ:St) (Q:VK) (u:Value) (s':Shared):Prop:=∃v H',jA X pins σ H' s'/\sA v u/\Q v H'
noncomputable def TP (X:Cx) (pins:List (Addr×Obj)) (σ:St) (Q:Bool->Hp->Prop) (b:Bool) (s':Shared):Prop:=∃H',jA X pins σ H' s'/\Q b H'
noncomputable def AP (X:Cx) (pins:List (Addr×Obj)) (σ:St) (Q:List V->Hp->Prop) (us:List Value) (s':Shared):Prop:=∃vs H',jA X pins σ H' s'/\pA vs us/\Q vs H'
noncomputable def SP (X:Cx) (pins:List (Addr×Obj)) (D:fC) (f:Flow) (s':Shared):Prop:=
 match f with
 |.next=>∃σ' H',jA X pins σ' H' s'/\D.nx σ' H'
 |.brk=>∃σ' H',jA X pins σ' H' s'/\D.bk σ' H'
 |.cont=>∃σ' H',jA X pins σ' H' s'/\D.ct σ' H'
 |.ret u=>∃v σ' H',jA X pins σ' H' s'/\sA v u/\D.rt v H'
noncomputable def PE (X:Cx) (e:Expr) (t:TE):Prop:=
 ∀(pins:List (Addr×Obj)) (s:Shared) (σ:St) (H:Hp) (Q:VK),jA X pins σ H s->t σ H Q->wpAny (model X.prog X.w) X.A (eval e X.env) (EP X pins σ Q) X.xe s
noncomputable def PT (X:Cx) (e:Expr) (t:TT):Prop:=
 ∀(pins:List (Addr×Obj)) (s:Shared) (σ:St) (H:Hp) (Q:Bool->Hp->Prop),jA X pins σ H s->t σ H Q->wpAny (model X.prog X.w) X.A (isTrue e X.env (eval e X.env)) (TP X pins σ Q) X.xe s
noncomputable def PW (X:Cx) (e:Expr) (t:TT):Prop:=
 ∀(eE:Sem Value) (pins:List (Addr×Obj)) (s:Shared) (σ:St) (H:Hp) (Q:Bool->Hp->Prop),jA X pins σ H s->t σ H Q->wpAny (model X.prog X.w) X.A (isTrue e X.env eE) (TP X pins σ Q) X.xe s
theorem PW.pt {X:Cx} {e:Expr} {t:TT} (h:PW X e t):PT X e t:=h _
noncomputable def PA (X:Cx) (es:List Expr) (t:TA):Prop:=
 ∀(pos:Pos) (pins:List (Addr×Obj)) (s:Shared) (σ:St) (H:Hp) (Q:List V->Hp->Prop),jA X pins σ H s->t σ H Q->wpAny (model X.prog X.w) X.A (spliced (backTo pos (starEach es X.env))) (AP X pins σ Q) X.xe s
noncomputable def PS (X:Cx) (st:Stmt) (t:TS):Prop:=
 ∀(pins:List (Addr×Obj)) (s:Shared) (σ:St) (H:Hp) (D:fC),jA X pins σ H s->t D σ H->wpAny (model X.prog X.w) X.A (exec st X.env) (SP X pins D) X.xe s
noncomputable def WD (X:Cx) (st:List Stmt) (t:TS):Prop:=
 ∀(pins:List (Addr×Obj)) (s:Shared) (σ:St) (H:Hp) (D:fC),jA X pins σ H s->t D σ H->wpAny (model X.prog X.w) X.A (execs st X.env) (SP X pins D) X.xe s
theorem YA {α:Type} {t:Sem α} {Q Q':α->Shared->Prop} {M:Model} {A:Around} {E:Value->Shared->Prop} {s:Shared} (h:wpAny M A t Q E s) (hQ:∀a s,Q a s->Q' a s):wpAny M A t Q' E s:=wpAny_mono h hQ λ_ _ x=>x
end L2
namespace L2
open PySem PySem.Spec PyProof.Rows
section
variable {X:Cx}
noncomputable def lI (i:Nat):TE:=λσ H Q=>∃v,σ[i]?=some (some v)/\Q v H
noncomputable def tC (v:V):TE:=λ_ H Q=>Q v H
theorem mI {i:Nat} {x:Str} {pos:Pos} (hN:X.N[i]?=some x) (hv:aO X.env.scope x) (hd:(x == ("__debug__":Str))=false:=by decide) (hcd:(x == ("__classdict__":Str))=false:=by decide):PE X (.Name x pos) (lI i):=by
 intro pins s σ H Q I h;obtain⟨v,e,h⟩:=h;obtain⟨m,hn,hl⟩:=I.loc;obtain⟨u,r,l⟩:=hl i x v hN e hv;have fin:EP X pins σ Q u s:=⟨v,H,I,r,h⟩
 rcases l with ⟨hk,hm⟩|⟨hk,c,hc,hcell⟩
 ·exact wpAny_Name (wpAny_loadName_local I.ok.kind hk hn hm fin) hd
 ·rcases hk with hk|hk
  ·exact wpAny_Name (wpAny_loadName_cell I.ok.kind hk hc hcell fin) hd
  ·exact wpAny_Name (wpAny_loadName_free I.ok.kind hk hc hcell fin hcd) hd
theorem rA {i j pos}:PE X (.Constant (.int i) j pos) (tC (.int i)):=λ_ _ _ H _ I h=>wpAny_Constant_int ⟨.int i,H,I.tok _,⟨_,rfl⟩,h⟩
theorem kG {b j pos}:PE X (.Constant (.bool b) j pos) (tC (.bl b)):=λ_ _ _ H _ I h=>Constant_bool ⟨.bl b,H,I,rfl,h⟩
theorem lB {j pos}:PE X (.Constant .none j pos) (tC .non):=λ_ _ _ H _ I h=>Constant_none ⟨.non,H,I,rfl,h⟩
theorem JD {x j pos}:PE X (.Constant (.str x) j pos) (tC (.str x)):=λ_ _ _ H _ I h=>Calls.Constant_str ⟨.str x,H,I.tok _,⟨_,rfl⟩,h⟩
noncomputable def Gl (X:Cx) (x:Str):Prop:=X.env.kindOf x=some .globalImplicit
theorem eO {E:Value->Shared->Prop} {pins:List (Addr×Obj)} {s:Shared} {σ:St} {H:Hp} {x:Str} {u:Value} {pos:Pos} {Q:Value->Shared->Prop} (I:jA X pins σ H s) (hg:Gl X x) (hm:X.mg x=some u) (h:Q u s)
  (hd:(x == ("__debug__":Str))=false:=by decide):wpAny (model X.prog X.w) X.A (eval (.Name x pos) X.env) Q E s:=
 Calls.Name_function_global I.ok.kind hg (Calls.loadGlobal_global (by rw[I.ok.glob];exact I.mod.glob.keeps I.bk) hm h) hd
theorem GK {E:Value->Shared->Prop} {pins:List (Addr×Obj)} {s:Shared} {σ:St} {H:Hp} {x:Str} {u:Value} {pos:Pos} {Q:Value->Shared->Prop} (I:jA X pins σ H s) (hg:Gl X x) (hm:X.mg x=none) (hv:bootBuiltins x=some u) (h:Q u s)
  (hn:x≠"__name__":=by decide) (hd:(x == ("__debug__":Str))=false:=by decide):wpAny (model X.prog X.w) X.A (eval (.Name x pos) X.env) Q E s:=by
 obtain⟨mb,h1,h2⟩:=I.mod.blt;exact Calls.Name_function_global I.ok.kind hg (Calls.loadGlobal_builtin (by rw[I.ok.glob];exact I.mod.glob.keeps I.bk) hm (by rw[I.ok.blt];exact h1.keeps I.bk) ((h2 x hn).trans hv) h) hd
theorem lX {x:Str} {v:V} {u:Value} {pos:Pos} (hg:Gl X x) (hm:X.mg x=none) (hv:bootBuiltins x=some u) (r:sA v u) (hn:x≠"__name__":=by decide) (hd:(x == ("__debug__":Str))=false:=by decide):PE X (.Name x pos) (tC v):=
 λ_ _ _ H _ I h=>GK I hg hm hv ⟨v,H,I,r,h⟩ hn hd
variable {a b:Expr} {ta tb:TE} {pos:Pos}
noncomputable def PC (X:Cx) (op:CmpOp) (a b:Expr) (t:TE):Prop:=
 ∀(pins:List (Addr×Obj)) (s:Shared) (σ:St) (H:Hp) (Q:VK),jA X pins σ H s->t σ H Q->
  wpAny (model X.prog X.w) X.A (eval a X.env) (λv s₁=>wpAny (model X.prog X.w) X.A (eval b X.env) (λu s₂=>wpAny (model X.prog X.w) X.A (compareOp op v u) (EP X pins σ Q) X.xe s₂) X.xe s₁) X.xe s
noncomputable def tB (t:TE):TT:=λσ H Q=>t σ H λx H1=>∃c,x=.bl c/\Q c H1
theorem XD {e:Expr} {t:TE} (h:PE X e t) (he:∀eE,isTrue e X.env eE=(do let v<-eE;standAt e.pos;holding [v] (truthy v)):=by intro _;rfl):PT X e (tB t):=by
 intro pins s σ H Q I hw;refine isTrue_plain (YA (h pins s σ H _ I hw) λv s1 ⟨x,H1,I1,r1,q1⟩=>?_) (he _);obtain⟨d,rfl,q⟩:=q1;cases r1;exact wpAny_truthy_bool ⟨H1,I1,q⟩
variable {tA tB':TT} {rest:List Expr}
noncomputable def HK (t u:TT):TT:=λσ H Q=>t σ H λc H1=>if c=true then u σ H1 Q else Q false H1
noncomputable def QT (t u:TT):TT:=λσ H Q=>t σ H λc H1=>if c=true then Q true H1 else u σ H1 Q
noncomputable def IK (t:TT):TT:=λσ H Q=>t σ H λc H1=>Q (!c) H1
theorem OE (ha:PT X a tA):PW X (.BoolOp .And [a] pos) tA:=by
 intro wh pins s σ H Q I h;refine isTrue_and (YA (ha pins s σ H Q I h) λc s1 e=>?_);cases c with
 |true=>exact isTrue_and_nil e
 |false=>exact e
theorem JK (ha:PT X a tA):PW X (.BoolOp .Or [a] pos) tA:=by
 intro wh pins s σ H Q I h;refine isTrue_or (YA (ha pins s σ H Q I h) λc s1 e=>?_);cases c with
 |false=>exact isTrue_or_nil e
 |true=>exact e
theorem QE (ha:PT X a tA) (hb:PW X (.BoolOp .And (b::rest) pos) tB'):PW X (.BoolOp .And (a::b::rest) pos) (HK tA tB'):=by
 intro wh pins s σ H Q I h;refine isTrue_and (YA (ha pins s σ H _ I h) λc s1 ⟨H1,I1,q1⟩=>?_);cases c with
 |true=>exact hb wh pins s1 σ H1 Q I1 q1
 |false=>exact⟨H1,I1,q1⟩
theorem LK (ha:PT X a tA) (hb:PW X (.BoolOp .Or (b::rest) pos) tB'):PW X (.BoolOp .Or (a::b::rest) pos) (QT tA tB'):=by
 intro wh pins s σ H Q I h;refine isTrue_or (YA (ha pins s σ H _ I h) λc s1 ⟨H1,I1,q1⟩=>?_);cases c with
 |true=>exact⟨H1,I1,q1⟩
 |false=>exact hb wh pins s1 σ H1 Q I1 q1
theorem lG (ha:PT X a tA):PT X (.UnaryOp .Not a pos) (IK tA):=by
 intro pins s σ H Q I h;exact isTrue_not (ha pins s σ H (λc H1=>Q (!c) H1) I h)
noncomputable def OG (ta tb:TE):TE:=λσ H Q=>ta σ H λx H1=>∃c,x=.bl c/\if c=true then tb σ H1 Q else Q (.bl false) H1
noncomputable def QG (ta:TE):TE:=λσ H Q=>ta σ H λx H1=>∃c,x=.bl c/\Q (.bl (!c)) H1
theorem gO {op} {t:TE} (h:PE X a t):PE X (.BoolOp op [a] pos) t:=λpins s σ H Q I hw=>BoolOp_one (h pins s σ H Q I hw)
theorem KM (ha:PE X a ta) (hb:PE X (.BoolOp .And (b::rest) pos) tb):PE X (.BoolOp .And (a::b::rest) pos) (OG ta tb):=by
 intro pins s σ H Q I h;refine BoolOp_and (YA (ha pins s σ H _ I h) λv s1 ⟨x,H1,I1,r1,q1⟩=>?_);obtain⟨c,rfl,q1⟩:=q1;cases r1;refine wpAny_truthy_bool ?_;cases c with
 |true=>exact hb pins s1 σ H1 Q I1 q1
 |false=>exact⟨.bl false,H1,I1,rfl,q1⟩
theorem nI (ha:PE X a ta):PE X (.UnaryOp .Not a pos) (QG ta):=by
 intro pins s σ H Q I h;refine UnaryOp_ (YA (ha pins s σ H _ I h) λv s1 ⟨x,H1,I1,r1,q1⟩=>?_);obtain⟨c,rfl,q1⟩:=q1;cases r1;exact not_of (wpAny_truthy_bool ⟨.bl (!c),H1,I1,rfl,q1⟩)
noncomputable def UT (t:TT) (ta tb:TE):TE:=λσ H Q=>t σ H λc H1=>if c=true then ta σ H1 Q else tb σ H1 Q
theorem LM {c:Expr} (hc:PT X c tA) (ha:PE X a ta) (hb:PE X b tb):PE X (.IfExp c a b pos) (UT tA ta tb):=by
 intro pins s σ H Q I h;refine wpAny_IfExp (YA (hc pins s σ H _ I h) λd s1 ⟨H1,I1,q1⟩=>?_);cases d with
 |true=>exact ha pins s1 σ H1 Q I1 q1
 |false=>exact hb pins s1 σ H1 Q I1 q1
end
end L2
namespace L2
open PySem PySem.Spec PyProof.Rows
noncomputable def kA (K:PySem.W.Frag) (H:Hp) (a:Addr) (xs:List V):Prop:=
 Rd H a (.lst xs)\/
  ∃(o:Obj) (its:Array Value) (n:Nat),K.lookup a=some o/\o.cls=.type "list"/\o.dict=none/\o.data=.seq its n/\its.size<=sizeLine/\pA xs its.toList
noncomputable def cB (K:PySem.W.Frag) (H:Hp) (a:Addr) (xs:List V):Prop:=
 Rd H a (.tup xs)\/
  ∃(o:Obj) (its:Array Value) (n:Nat),K.lookup a=some o/\o.cls=.type "tuple"/\o.data=.seq its n/\its.size<=sizeLine/\pA xs its.toList
noncomputable def iO:Value->Option V
 |.none=>some .non
 |.bool b=>some (.bl b)
 |.int i _=>some (.int i)
 |.str x _=>some (.str x)
 |.bytes b _=>some (.byt b)
 |.float b _=>some (.flt b)
 |.ref a=>some (.ref a)
 |.type n=>some (.ty n)
 |_=>none
theorem sA.abs {x:V} {u:Value} (r:sA x u):iO u=some x:=by
 cases x with
 |non=>cases r;rfl
 |bl _=>cases r;rfl
 |int _=>obtain⟨t,rfl⟩:=r;rfl
 |str _=>obtain⟨t,rfl⟩:=r;rfl
 |byt _=>obtain⟨t,rfl⟩:=r;rfl
 |flt _=>obtain⟨t,rfl⟩:=r;rfl
 |ref _=>cases r;rfl
 |ty _=>cases r;rfl
theorem sA.inj {x y:V} {u:Value} (r:sA x u) (q:sA y u):x=y:=Option.some.inj (r.abs.symm.trans q.abs)
theorem pA.inj:∀{xs ys:List V} {us:List Value},pA xs us->pA ys us->xs=ys
 |_,_,_,.nil,.nil=>rfl
 |_,_,_,.cons r t,.cons r' t'=>by rw[r.inj r',pA.inj t t']
section
variable {X:Cx} {pins:List (Addr×Obj)} {σ:St} {H:Hp} {s:Shared} {a:Addr} {xs ys:List V}
theorem kA.of {K:PySem.W.Frag} (h:H a=some (.lst xs)):kA K H a xs:=.inl (.inl h)
theorem cB.of {K:PySem.W.Frag} (h:H a=some (.tup xs)):cB K H a xs:=.inl (.inl h)
theorem jA.list (I:jA X pins σ H s) (h:kA X.K H a xs):∃its:List Value,pA xs its/\PlainL s.heap a its.toArray/\xs.length<=sizeLine:=by
 rcases h with h|⟨o,its,n,hk,hc,hd,hs,hz,r⟩
 ·obtain⟨z,its,n,r,e⟩:=h.ok I.hok;exact⟨its,r,⟨_,n,e,rfl,rfl,rfl⟩,z⟩
 ·refine⟨its.toList,r,⟨o,n,I.kIn a o hk,hc,hd,by simpa using hs⟩,?_⟩;have e:=r.length;simp only[Array.length_toList] at e;omega
theorem jA.tuple (I:jA X pins σ H s) (h:cB X.K H a xs):∃its:List Value,pA xs its/\IsTup s.heap a its.toArray/\xs.length<=sizeLine:=by
 rcases h with h|⟨o,its,n,hk,hc,hs,hz,r⟩
 ·obtain⟨z,its,r,p⟩:=h.ok I.hok;exact⟨its,r,p,z⟩
 ·refine⟨its.toList,r,⟨o,I.kIn a o hk,hc,n,by simpa using hs⟩,?_⟩;have e:=r.length;simp only[Array.length_toList] at e;omega
theorem jA.list_inj (I:jA X pins σ H s) (h:kA X.K H a xs) (h':kA X.K H a ys):xs=ys:=by
 obtain⟨its,r,⟨o,n,e,_,_,d⟩,_⟩:=I.list h;obtain⟨its',r',⟨o',n',e',_,_,d'⟩,_⟩:=I.list h';rw[e] at e';cases e';rw[d] at d';injection d' with d1 _;have:its=its':=by simpa using congrArg Array.toList d1
 subst this;exact r.inj r'
theorem jA.tuple_inj (I:jA X pins σ H s) (h:cB X.K H a xs) (h':cB X.K H a ys):xs=ys:=by
 obtain⟨its,r,⟨o,e,_,n,d⟩,_⟩:=I.tuple h;obtain⟨its',r',⟨o',e',_,n',d'⟩,_⟩:=I.tuple h';rw[e] at e';cases e';rw[d] at d';injection d' with d1 _;have:its=its':=by simpa using congrArg Array.toList d1
 subst this;exact r.inj r'
end
noncomputable abbrev Cx.wish (X:Cx) (E:Value->Shared->Prop):Cx:={X with xe:=E}
noncomputable abbrev Cx.nox (X:Cx):Cx:=X.wish λ_ _=>False
theorem Cx.Ok.wish {X:Cx} (ok:X.Ok) (E:Value->Shared->Prop):(X.wish E).Ok:=
 ⟨ok.mod,ok.kind,ok.glob,ok.blt,ok.above,ok.inj,ok.has,ok.cab,ok.hd,ok.frames,ok.stk,ok.exf,ok.bs,ok.bsz,ok.noex,ok.exfs,ok.funs,ok.frf⟩
theorem Cx.Ok.unwish {X:Cx} {E:Value->Shared->Prop} (ok:(X.wish E).Ok):X.Ok:=
 ⟨ok.mod,ok.kind,ok.glob,ok.blt,ok.above,ok.inj,ok.has,ok.cab,ok.hd,ok.frames,ok.stk,ok.exf,ok.bs,ok.bsz,ok.noex,ok.exfs,ok.funs,ok.frf⟩
section
variable {X:Cx} {pins:List (Addr×Obj)} {σ:St} {H:Hp} {s:Shared} {E:Value->Shared->Prop}
theorem jA.wish (I:jA X pins σ H s) (E:Value->Shared->Prop):jA (X.wish E) pins σ H s:=⟨I.ok.wish E,I.os,I.bare,I.base,I.loc,I.cell,I.free,I.freeC,I.pin,I.hok,I.len⟩
theorem jA.unwish (I:jA (X.wish E) pins σ H s):jA X pins σ H s:=⟨I.ok.unwish,I.os,I.bare,I.base,I.loc,I.cell,I.free,I.freeC,I.pin,I.hok,I.len⟩
theorem SP.unwish {D:fC} {f:Flow} {s':Shared} (h:SP (X.wish E) pins D f s'):SP X pins D f s':=by
 cases f with
 |next=>obtain⟨σ',H',I,q⟩:=h;exact⟨σ',H',I.unwish,q⟩
 |brk=>obtain⟨σ',H',I,q⟩:=h;exact⟨σ',H',I.unwish,q⟩
 |cont=>obtain⟨σ',H',I,q⟩:=h;exact⟨σ',H',I.unwish,q⟩
 |ret u=>obtain⟨v,σ',H',I,r,q⟩:=h;exact⟨v,σ',H',I.unwish,r,q⟩
theorem PE.nox {e:Expr} {t:TE} (h:PE X.nox e t):PE X e t:=λpins s σ H Q I hw=>
 wpAny_mono (h pins s σ H Q (I.wish _) hw) (λ_ _ ⟨v,H',I',r,q⟩=>⟨v,H',I'.unwish,r,q⟩) λ_ _ z=>False.elim z
theorem PT.nox {e:Expr} {t:TT} (h:PT X.nox e t):PT X e t:=λpins s σ H Q I hw=>
 wpAny_mono (h pins s σ H Q (I.wish _) hw) (λ_ _ ⟨H',I',q⟩=>⟨H',I'.unwish,q⟩) λ_ _ z=>False.elim z
theorem WD.nox {st:List Stmt} {t:TS} (h:WD X.nox st t):WD X st t:=λpins s σ H D I hw=>
 wpAny_mono (h pins s σ H D (I.wish _) hw) (λ_ _ q=>q.unwish) λ_ _ z=>False.elim z
end
section
variable {X:Cx} {st:Stmt} {rest:List Stmt} {t u:TS} {e:Expr} {te:TE} {pos:Pos}
noncomputable def tNext:TS:=λD σ H=>D.nx σ H
noncomputable def MK (t u:TS):TS:=λD σ H=>t {D with nx:=u D} σ H
theorem XB:WD X [] tNext:=λ_ _ σ H _ I h=>wpAny_execs_nil ⟨σ,H,I,h⟩
theorem aB (h1:PS X st t) (h2:WD X rest u):WD X (st::rest) (MK t u):=by
 intro pins s σ H D I h;refine wpAny_execs_cons (YA (h1 pins s σ H {D with nx:=u D} I h) λf s1 q=>?_);cases f with
 |next=>
  obtain⟨σ',H',I',q⟩:=q;exact h2 pins s1 σ' H' D I' q
 |ret v=>exact q
 |brk=>exact q
 |cont=>exact q
theorem BA (h1:PS X st t):WD X [st] t:=by
 intro pins s σ H D I h;refine wpAny_execs_cons (YA (h1 pins s σ H D I h) λf s1 q=>?_);cases f with
 |next=>exact wpAny_execs_nil q
 |ret v=>exact q
 |brk=>exact q
 |cont=>exact q
noncomputable def tCont:TS:=λD σ H=>D.ct σ H
theorem VT:PS X (.Continue pos) tCont:=λ_ _ σ H _ I h=>wpAny_Continue ⟨σ,H,I,h⟩
theorem jA.quiet {pins:List (Addr×Obj)} {σ:St} {H:Hp} {s:Shared} (I:jA X pins σ H s):interactive X.env=false:=by simp[interactive,I.ok.kind]
noncomputable def RG (te:TE):TS:=λD σ H=>te σ H λ_ H1=>D.nx σ H1
theorem aD (he:PE X e te) (hs:swapsWith e none pos.line X.env=pure false:=by rfl):PS X (.Expr e pos) (RG te):=by
 intro pins s σ H D I h;exact wpAny_Expr_any (YA (he pins s σ H _ I h) λv s1 ⟨x,H1,I1,r1,q1⟩=>⟨σ,H1,I1,q1⟩) I.quiet hs
noncomputable def NK (te:TE):TS:=λD σ H=>te σ H D.rt
theorem zB (he:PE X e te):PS X (.Return (some e) pos) (NK te):=by
 intro pins s σ H D I h;exact wpAny_Return_some (YA (he pins s σ H _ I h) λv s1 ⟨x,H1,I1,r1,q1⟩=>⟨x,σ,H1,I1,r1,q1⟩)
noncomputable def OK (c:TT) (t u:TS):TS:=λD σ H=>c σ H λb H1=>if b=true then t D σ H1 else u D σ H1
theorem GB {c:Expr} {a b:List Stmt} {tc:TT} (hc:PT X c tc) (ha:WD X a t) (hb:WD X b u):PS X (.If c a b pos) (OK tc t u):=by
 intro pins s σ H D I h;refine wpAny_If (YA (hc pins s σ H _ I h) λd s1 ⟨H1,I1,q1⟩=>?_);cases d with
 |true=>exact ha pins s1 σ H1 D I1 q1
 |false=>exact hb pins s1 σ H1 D I1 q1
end
noncomputable abbrev TG:=V->St->Hp->(St->Hp->Prop)->Prop
noncomputable abbrev TGs:=List V->St->Hp->(St->Hp->Prop)->Prop
noncomputable def PG (X:Cx) (target:Expr) (t:TG):Prop:=
 ∀(pins:List (Addr×Obj)) (s:Shared) (σ:St) (H:Hp) (v:V) (u:Value) (Q:St->Hp->Prop),jA X pins σ H s->sA v u->t v σ H Q->
  wpAny (model X.prog X.w) X.A (assign target X.env u) (λ_ s'=>∃σ' H',jA X pins σ' H' s'/\Q σ' H') X.xe s
noncomputable def MM (X:Cx) (ts:List Expr) (t:TGs):Prop:=
 ∀(pins:List (Addr×Obj)) (s:Shared) (σ:St) (H:Hp) (vs:List V) (us:List Value) (Q:St->Hp->Prop),jA X pins σ H s->pA vs us->t vs σ H Q->
  wpAny (model X.prog X.w) X.A (assignInOrder ((assignEach ts X.env).map (·.2)) us) (λ_ s'=>∃σ' H',jA X pins σ' H' s'/\Q σ' H') X.xe s
noncomputable abbrev TSet:=V->V->V->Hp->(Hp->Prop)->Prop
noncomputable def PK (X:Cx) (t:TSet):Prop:=
 ∀(pins:List (Addr×Obj)) (s:Shared) (σ:St) (H:Hp) (o i v:V) (ov iv u:Value) (Q:Hp->Prop),jA X pins σ H s->sA o ov->sA i iv->sA v u->t o i v H Q->
  wpAny (model X.prog X.w) X.A (setItem ov iv u) (λ_ s'=>∃H',jA X pins σ H' s'/\Q H') X.xe s
section
variable {X:Cx} {pos:Pos}
noncomputable def yD (i:Nat):TG:=λv σ H Q=>Q (σ.set i (some v)) H
theorem wC {i:Nat} {x:Str} (hN:X.N.Nodup) (hi:X.N[i]?=some x) (hx:JM X.env.scope x) (hf:X.fn x=true\/X.env.scope.names.lookup x=some .local:=by first|exact .inl rfl|exact .inr rfl|assumption):PG X (.Name x pos) (yD i):=by
 intro pins s σ H v u Q I r h;exact wpAny_assign_Name (OT I hN hi hx r (λs' I'=>⟨_,H,I',h⟩) hf)
noncomputable def gNil:TGs:=λvs σ H Q=>vs=[]/\Q σ H
noncomputable def SG (t:TG) (u:TGs):TGs:=λvs σ H Q=>∃v r,vs=v::r/\t v σ H λσ' H'=>u r σ' H' Q
theorem WT:MM X [] gNil:=by
 intro pins s σ H vs us Q I r h;obtain⟨e,h⟩:=h;subst e;cases r;exact assignInOrder_nil ⟨σ,H,I,h⟩
theorem NM {e:Expr} {es:List Expr} {t:TG} {u:TGs} (h1:PG X e t) (h2:MM X es u)
  (hs:(assignEach (e::es) X.env).map (·.2)=assign e X.env::(assignEach es X.env).map (·.2):=by rfl):MM X (e::es) (SG t u):=by
 intro pins s σ H vs us Q I r h;obtain⟨v,vr,e1,h⟩:=h;subst e1;cases r with
 |cons r rr=>
  rw[hs];refine assignInOrder_cons (YA (h1 pins s σ H _ _ _ I r h) λ_ s1 ⟨σ1,H1,I1,q1⟩=>?_);exact h2 pins s1 σ1 H1 _ _ Q I1 rr q1
noncomputable def QK (K:PySem.W.Frag) (n:Nat) (t:TGs):TG:=λv σ H Q=>∃a xs,v=.ref a/\cB K H a xs/\xs.length=n/\t xs σ H Q
theorem XT {es:List Expr} {k:Nat} {t:TGs} {n:Nat} (hc:X.calm=true) (h:MM X es t)
  (hn:(assignEach es X.env).length=n:=by rfl) (hst:(assignEach es X.env).findIdx? (·.1)=none:=by rfl):PG X (.Tuple es k pos) (QK X.K n t):=by
 intro pins s σ H v u Q I r hw;obtain⟨a,xs,e1,hq,hl,hw⟩:=hw;subst e1;cases r;obtain⟨its,rv,ht,hz⟩:=I.tuple hq;refine assign_Tuple_tuple (I.ok.hd hc) ht (by simp[hn,<-hl,rv.length]) hst λh' hx=>?_;have I1:jA X pins σ H {s with heap:=h'}:=I.kept (t':=s.toks) λb o e=>hx b o (Nat.ne_of_lt (Heap.lt_size e)) e;exact h pins _ σ H xs _ Q I1 (by simpa using rv) hw
noncomputable def RK (to ti:TE) (t:TSet):TG:=λv σ H Q=>to σ H λo H1=>ti σ H1 λi H2=>t o i v H2 λH3=>Q σ H3
theorem sD {o i:Expr} {to ti:TE} {t:TSet} (ho:PE X o to) (hi:PE X i ti) (hs:PK X t)
  (ha:∀v,assign (.Subscript o i pos) X.env v=(do
   let ov<-holding [v] (eval o X.env)
   let iv<-holding [v,ov] (eval i X.env)
   standAt pos
   holding [v,ov,iv] (setItem ov iv v)
   release [v,ov,iv] []):=by intro _;rfl):PG X (.Subscript o i pos) (RK to ti t):=by
 intro pins s σ H v u Q I r h;rw[ha];refine wpAny_bind (wpAny_holding (YA (ho pins s σ H _ I h) λov s1 ⟨x,H1,I1,r1,q1⟩=>?_));refine wpAny_bind (wpAny_holding (YA (hi pins s1 σ H1 _ I1 q1) λiv s2 ⟨y,H2,I2,r2,q2⟩=>?_));refine wpAny_bind (wpAny_standAt (wpAny_bind (wpAny_holding (YA (hs pins s2 σ H2 x y v ov iv u _ I2 r1 r2 r q2) λ_ s3 ⟨H3,I3,q3⟩=>?_))));exact wpAny_release ⟨σ,H3,I3,q3⟩
noncomputable def tG (te:TE) (g:TG):TS:=λD σ H=>te σ H λx H1=>g x σ H1 D.nx
theorem tD {tg e:Expr} {te:TE} {g:TG} (he:PE X e te) (hg:PG X tg g) (hs:swapsWithSole [tg] e pos.line X.env=pure false:=by rfl) (hw:swappedStores [tg] e X.env=pure none:=by rfl)
  (h1:(assignEach [tg] X.env).map (·.2)=[assign tg X.env]:=by rfl):PS X (.Assign [tg] e pos) (tG te g):=by
 intro pins s σ H D I h;refine wpAny_Assign_stores (YA (he pins s σ H _ I h) λv s1 ⟨x,H1,I1,r1,q1⟩=>?_) hs hw;rw[h1];exact YA (hg pins s1 σ H1 x v _ I1 r1 q1) λ_ s2 q=>q
theorem mB {i:Nat} {x:Str} {e:Expr} {te:TE} {pos':Pos} (hN:X.N.Nodup) (hi:X.N[i]?=some x) (hx:JM X.env.scope x) (he:PE X e te) (hs:swapsWith e (some (.Name x pos')) pos.line X.env=pure false:=by rfl) (hf:X.fn x=true\/X.env.scope.names.lookup x=some .local:=by first|exact .inl rfl|exact .inr rfl|assumption):
  PS X (.Assign [.Name x pos'] e pos) (tG te (yD i)):=by
 intro pins s σ H D I h;refine wpAny_Assign_Name (YA (he pins s σ H _ I h) λv s1 ⟨y,H1,I1,r1,q1⟩=>?_) hs;exact OT I1 hN hi hx r1 (λs2 I2=>⟨_,H1,I2,q1⟩) hf
end
section
variable {X:Cx} {pos:Pos}
noncomputable def yF (c:TT) (tb:TS):TS:=λD σ H=>∃W:Nat->St->Hp->Prop,(∃m,W m σ H)/\∀m σ H,W m σ H->
 c σ H λb H1=>if b=true then ∃N:St->Hp->Prop,(∀σ' H',N σ' H'->∃m',m' < m/\W m' σ' H')/\tb {D with nx:=N,ct:=N,bk:=D.nx} σ H1 else D.nx σ H1
theorem mX {c:Expr} {body:List Stmt} {tc:TT} {tb:TS} (hp:PassesOwn (model X.prog X.w) X.A X.env X.xe) (hc:PT X c tc) (hb:WD X body tb):PS X (.While c body [] pos) (yF tc tb):=by
 intro pins s σ H D I h;obtain⟨W,⟨m0,w0⟩,turn⟩:=h;refine wpAny_While (codeAny_whileLoop (λn s'=>∃σ' H',jA X pins σ' H' s'/\W n σ' H') ?_ m0 ⟨σ,H,I,w0⟩);rintro n s1 ⟨σ1,H1,I1,w1⟩;refine wpAny_passesOwn hp (YA (hc pins s1 σ1 H1 _ I1 (turn n σ1 H1 w1)) λb s2 ⟨H2,I2,q2⟩=>?_);cases b with
 |true=>
  obtain⟨N,hN,q2⟩:=q2;rw[if_pos rfl];refine wpAny_passesOwn hp (YA (hb pins s2 σ1 H2 _ I2 q2) λf s3 q3=>?_);cases f with
  |next=>
   obtain⟨σ3,H3,I3,n3⟩:=q3;obtain⟨m',hm,w3⟩:=hN σ3 H3 n3;exact⟨m',hm,σ3,H3,I3,w3⟩
  |cont=>
   obtain⟨σ3,H3,I3,n3⟩:=q3;obtain⟨m',hm,w3⟩:=hN σ3 H3 n3;exact⟨m',hm,σ3,H3,I3,w3⟩
  |brk=>exact q3
  |ret v=>exact q3
 |false=>
  rw[if_neg Bool.false_ne_true];exact wpAny_execs_nil ⟨σ1,H2,I2,q2⟩
end
set_option genInjectivity false in
structure It where
 go:Nat->Hp->Prop
 yld:Nat->Hp->V->Hp->Prop
 stop:Nat->Hp->Prop
noncomputable def xC (X:Cx) (pins:List (Addr×Obj)) (H:Hp) (b:Addr):Prop:=
 H b=none/\b≠X.env.locals/\b∉X.fs/\(b∈X.ex\/X.s₀.heap.objs.size<=b)/\(∀x c,X.env.cells.lookup x=some c->c≠b)/\∀p∈X.pn++pins,p.1≠b
theorem jA.fpOk {X:Cx} {pins:List (Addr×Obj)} {σ:St} {H H':Hp} {s:Shared} {b:Addr} (I:jA X pins σ H s) (hb:s.heap.objs.size<=b) (hn:H' b=none):xC X pins H' b:=by
 refine⟨hn,Nat.ne_of_gt (Nat.lt_of_lt_of_le I.lt hb),I.nofs hb,.inr (Nat.le_trans I.sz hb),λx c e z=>?_,λp hp z=>?_⟩
 ·obtain⟨v,q⟩:=I.cell x c e;exact absurd (Nat.lt_of_lt_of_le q.lt (by rw[z];exact hb)) (Nat.lt_irrefl _)
 ·exact absurd (Nat.lt_of_lt_of_le (Heap.lt_size (I.pin p hp).1) (by rw[z];exact hb)) (Nat.lt_irrefl _)
structure uE (P:Program) (w:World) (K:PySem.W.Frag) (tg:Expr) (J:It) (fp:List Addr) (it:Addr) (tn:Nat->Heap->Prop):Prop where
 mem:it∈fp
 obj:∀i h,tn i h->∀b∈fp,∃o,h.get? b=some o/\∀v,o.data≠.cell v
 keep:∀i h h',tn i h->(∀b∈fp,∀o,h.get? b=some o->h'.get? b=some o)->tn i h'
 item:∀(X:Cx),X.prog=P->X.w=w->X.K=K->X.calm=true->∀(i:Nat) (pins:List (Addr×Obj)) (s:Shared) (σ:St) (H:Hp) (E:Value->Shared->Prop),jA X pins σ H s->(∀b∈fp,xC X pins H b)->tn i s.heap->J.go i H->
  wpAny (model P w) X.A (pyNext (.ref it)) (λr s1=>∃u,r=some u/\
   wpAny (model P w) X.A (letOwnedTupleGo tg (.ref it) u) (λ_ s2=>∃x H',jA X pins σ H' s2/\sA x u/\J.yld i H x H'/\tn (i+1) s2.heap/\∀b∈fp,H' b=none) E s1) E s
 done:∀(X:Cx),X.prog=P->X.w=w->X.K=K->X.calm=true->∀(i:Nat) (pins:List (Addr×Obj)) (s:Shared) (σ:St) (H:Hp) (E:Value->Shared->Prop),jA X pins σ H s->(∀b∈fp,xC X pins H b)->tn i s.heap->J.stop i H->
  wpAny (model P w) X.A (pyNext (.ref it)) (λr s1=>r=none/\jA X pins σ H s1) E s
 self:∀(A:Around) (i:Nat) (s:Shared) (Q:Value->Shared->Prop) (E:Value->Shared->Prop),tn i s.heap->Q (.ref it) s->wpAny (model P w) A (pyIter (.ref it)) Q E s
noncomputable abbrev TI:=St->Hp->(It->Hp->Prop)->Prop
noncomputable def YT (X:Cx) (pins:List (Addr×Obj)) (σ:St) (tg:Expr) (R:It->Hp->Prop) (itv:Value) (s2:Shared):Prop:=
 ∃(it:Addr) (fp:List Addr) (tn:Nat->Heap->Prop) (J:It) (H':Hp),itv=.ref it/\jA X pins σ H' s2/\uE X.prog X.w X.K tg J fp it tn/\tn 0 s2.heap/\(∀b∈fp,xC X pins H' b)/\R J H'
noncomputable def PI (X:Cx) (tg iter:Expr) (wi:TI):Prop:=
 ∀(pins:List (Addr×Obj)) (s:Shared) (σ:St) (H:Hp) (R:It->Hp->Prop),jA X pins σ H s->wi σ H R->
  wpAny (model X.prog X.w) X.A (eval iter X.env) (λv s1=>wpAny (model X.prog X.w) X.A (pyIter v) (YT X pins σ tg R) X.xe s1) X.xe s
theorem jO {M : Model} {A : Around} {E : Value -> Shared -> Prop} {s : Shared} {tg : Expr} {it : Addr} {u : Value} {o : Obj} {n : String} {vs : Array Value} {Q : Unit -> Shared -> Prop} (ho : s.heap.get? it = some o) (hc : o.cls = .type n) (hd : o.data = .fields vs)
    (hn : ["enumerate", "zip", "dict_itemiterator", "dict_reverseitemiterator", "odict_iterator", "itertools.zip_longest", "itertools.pairwise"].contains n = false) (hQ : Q () s) : wpAny M A (letOwnedTupleGo tg (.ref it) u) Q E s := by
  unfold letOwnedTupleGo;cases tg <;> first
    | exact wpAny_pure hQ
    | (cases u <;> first
        | exact wpAny_pure hQ
        | (refine wpAny_bind (wpAny_load ho ?_)
           rw [hc, hd];show wpAny M A (if (["enumerate", "zip", "dict_itemiterator", "dict_reverseitemiterator", "odict_iterator", "itertools.zip_longest", "itertools.pairwise"].contains n && vs[0]? == some (rawInt _)) = true then _ else _) Q E s;rw [if_neg (by intro h; rw [hn, Bool.false_and] at h; cases h)];exact wpAny_pure hQ))
noncomputable def UG (K:PySem.W.Frag) (a:Addr):It:=
 ⟨λi H=>∃xs x,kA K H a xs/\xs[i]?=some x,λi H x H'=>H'=H/\∀xs,kA K H a xs->xs[i]?=some x,λi H=>∃xs,kA K H a xs/\xs.length<=i⟩
noncomputable def VG (lo:Int) (n:Nat):It:=⟨λi _=>i < n,λi H x H'=>H'=H/\x=.int (lo+i),λi _=>n<=i⟩
theorem nX {P:Program} {w:World} {K:PySem.W.Frag} {tg:Expr} (a it:Addr):uE P w K tg (UG K a) [it] it (λi h=>h.IsListIter it a i) where
 mem:=by simp
 obj:=λi h st b hb=>by
  have e:b=it:=by simpa using hb
  subst e;obtain⟨o,e,c,d⟩:=st;exact⟨o,e,λv z=>by rw[d] at z;cases z⟩
 keep:=λi h h' st k=>st.at λo e=>k it (by simp) o e
 item:=by
  intro X hP hw hK hc i pins s σ H E I hf st hg;subst hP hw hK;obtain⟨xs,x,hq,hx⟩:=hg;obtain⟨its,rv,p,hz⟩:=I.list hq;obtain⟨u,hu,ru⟩:=rv.get hx;obtain⟨f0,f1,f2,f3,f4,f5⟩:=hf it (by simp);refine wpAny_pyNext_list_item st p.isList (x:=u) (by simpa using hu) λh' st' sb=>?_;have I1:jA X pins σ H {s with heap:=h'}:=I.turned (t':=s.toks) (λb o hb e=>(sb.2 b hb).trans e) f0 f1 f3 f4 f5;obtain⟨o,e,c,d⟩:=id st';exact⟨u,rfl,jO (s:={s with heap:=h'}) e c d (by decide) ⟨x,H,I1,ru,⟨rfl,λys hy=>by rw[I.list_inj hy hq];exact hx⟩,st',λb hb=>(hf b hb).1⟩⟩
 done:=by
  intro X hP hw hK hc i pins s σ H E I hf st hg;subst hP hw hK;obtain⟨xs,hq,hx⟩:=hg;obtain⟨its,rv,p,hz⟩:=I.list hq;obtain⟨f0,f1,f2,f3,f4,f5⟩:=hf it (by simp);have hl:=rv.length;exact wpAny_pyNext_list_end (I.ok.hd hc) st p.isList (by simp;omega) λh' eb=>⟨rfl,I.turned (t':=s.toks) (λb o hb e=>eb b o hb e) f0 f1 f3 f4 f5⟩
 self:=λ_ _ _ _ _ st h=>wpAny_pyIter_listiter st h
theorem oX {P:Program} {w:World} {K:PySem.W.Frag} {tg:Expr} (it:Addr) (lo:Int) (n:Nat):uE P w K tg (VG lo n) [it] it (λi h=>IsRangeIter h it (lo+(i:Nat) * 1) ((n:Int) - (i:Nat)) 1) where
 mem:=by simp
 obj:=λi h st b hb=>by
  have e:b=it:=by simpa using hb
  subst e;exact⟨_,st,λv z=>by
   have z':Data.fields _=Data.cell v:=z;cases z'⟩
 keep:=λi h h' st k=>k it (by simp) _ st
 item:=by
  intro X hP hw hK hc i pins s σ H E I hf st hg;subst hP hw hK;obtain⟨f0,f1,f2,f3,f4,f5⟩:=hf it (by simp);have W:=Walks.range (prog:=X.prog) (w:=X.w) (I.ok.hd hc) it lo 1 n;refine W.item i s _ _ hg st λv h' tk hv st' kk=>?_;obtain⟨t,rfl⟩:=hv;have I1:jA X pins σ H {s with heap:=h',toks:=tk}:=I.turned (λb o hb e=>kk b o (by simpa using hb) e) f0 f1 f3 f4 f5;refine⟨_,rfl,jO (s:={s with heap:=h',toks:=tk}) (n:="range_iterator") st' rfl rfl (by decide) ⟨.int (lo+i),H,I1,⟨t,?_⟩,⟨rfl,rfl⟩,st',λb hb=>(hf b hb).1⟩⟩;rw[Int.mul_one]
 done:=by
  intro X hP hw hK hc i pins s σ H E I hf st hg;subst hP hw hK;obtain⟨f0,f1,f2,f3,f4,f5⟩:=hf it (by simp);exact wpAny_pyNext_range_end (I.ok.hd hc) st (by have:n<=i:=hg;omega) λh' eb=>⟨rfl,I.turned (t':=s.toks) (λb o hb e=>eb b o hb e) f0 f1 f3 f4 f5⟩
 self:=λ_ _ _ _ _ st h=>wpAny_pyIter_rangeiter st h
end L2
namespace L2
open PySem PySem.Spec PyProof.Rows
section
variable {X:Cx} {tg:Expr}
noncomputable def WG (K:PySem.W.Frag) (tl:TE):TI:=λσ H R=>tl σ H λx H1=>∃a,x=.ref a/\(∃xs,kA K H1 a xs)/\R (UG K a) H1
theorem qF {l:Expr} {tl:TE} (hl:PE X l tl):PI X tg l (WG X.K tl):=by
 intro pins s σ H R I h;refine YA (hl pins s σ H _ I h) λv s1 ⟨x,H1,I1,r1,q1⟩=>?_;obtain⟨a,e,⟨xs,hq⟩,q⟩:=q1;subst e;cases r1;obtain⟨its,rv,p,hz⟩:=I1.list hq;refine wpAny_pyIter_list p.isList ?_;refine⟨s1.heap.objs.size,[s1.heap.objs.size],_,_,H1,rfl,I1.kept (t':=s1.toks) λb o e=>Heap.get?_push_of_some _ e,nX a _,⟨_,Heap.get?_push_size _ rfl,rfl,rfl⟩,λb hb=>?_,q⟩;have e:b=s1.heap.objs.size:=by simpa using hb
 subst e;exact I1.fpOk (Nat.le_refl _) (I1.hok.fresh (Nat.le_refl _))
theorem pX {pins:List (Addr×Obj)} {σ:St} {H:Hp} {s:Shared} {R:It->Hp->Prop} {E:Value->Shared->Prop} {lo hi:Int} {t u v:Tok} {tk:Nat} (I:jA X pins σ H s) (h1: -(2 ^ 62)<=lo) (h2:lo < 2 ^ 62) (h3: -(2 ^ 62)<=hi) (h4:hi < 2 ^ 62)
  (q:R (VG lo (hi - lo).toNat) H):wpAny (model X.prog X.w) X.A (pyIter (.ref s.heap.objs.size)) (YT X pins σ tg R) E {s with heap:=s.heap.push {cls:=.type "range",data:=.fields #[.int lo t,.int hi u,.int 1 v]},toks:=tk}:=by
 refine wpAny_pyIter_range (IsRange.new ..) (small_one h1 h2 h3 h4) ?_;have I1:jA X pins σ H {s with heap:=s.heap.push {cls:=.type "range",data:=.fields #[.int lo t,.int hi u,.int 1 v]},toks:=tk}:=I.kept λb o e=>Heap.get?_push_of_some _ e;refine⟨(s.heap.push {cls:=.type "range",data:=.fields #[.int lo t,.int hi u,.int 1 v]}).objs.size,[(s.heap.push {cls:=.type "range",data:=.fields #[.int lo t,.int hi u,.int 1 v]}).objs.size],_,_,H,rfl,
  I1.kept (t':=tk) λb o e=>Heap.get?_push_of_some _ e,oX _ lo (hi - lo).toNat,?_,λb hb=>?_,q⟩
 ·have e1:lo+((0:Nat):Int) * 1=lo:=by simp
  have e2:(((hi - lo).toNat:Nat):Int) - ((0:Nat):Int)=Builtin.Range.rangeSize lo hi 1:=by rw[rangeSize_one];split<;>omega
  show IsRangeIter _ _ (lo+((0:Nat):Int) * 1) ((((hi - lo).toNat:Nat):Int) - ((0:Nat):Int)) 1;rw[e1,e2];exact Heap.get?_push_size _ rfl
 ·have e:b=(s.heap.push {cls:=.type "range",data:=.fields #[.int lo t,.int hi u,.int 1 v]}).objs.size:=by simpa using hb
  subst e;exact I1.fpOk (Nat.le_refl _) (I1.hok.fresh (Nat.le_refl _))
noncomputable def XG (ta:TA):TI:=λσ H R=>ta σ H λvs H1=>∃j:Int,vs=[.int j]/\ -(2 ^ 62)<=j/\j < 2 ^ 62/\R (VG 0 j.toNat) H1
theorem RE {a:Expr} {ta:TA} {p pos:Pos} (hg:Gl X "range") (hm:X.mg "range"=none) (ha:PA X [a] ta) (hs:starEach [a] X.env=[(false,eval a X.env)]:=by rfl):PI X tg (.Call (.Name "range" p) [a] [] pos) (XG ta):=by
 intro pins s σ H R I h;refine Call_ (GK I hg hm boot_range (PyProof.Rows.callWith_type1 (YA (ha pos pins s σ H _ I h) λus s1 ⟨vs,H1,I1,r1,q1⟩=>?_) hs rfl));obtain⟨j,e,q1,q2,q⟩:=q1;subst e;cases r1 with
 |cons r rr=>
  cases rr;obtain⟨t,rfl⟩:=r;exact call_range_1 (pX I1 ⋯ ⋯ q1 q2 (by simpa using q))
noncomputable def kO (wi:TI) (g:TG) (tb:TS):TS:=λD σ H=>wi σ H λJ H1=>∃W:Nat->Nat->St->Hp->Prop,(∃m,W 0 m σ H1)/\∀i m σ H,W i m σ H->
 (J.stop i H/\D.nx σ H)\/(J.go i H/\∃N:St->Hp->Prop,(∀σ' H',N σ' H'->∃m',m' < m/\W (i+1) m' σ' H')/\∀x H',J.yld i H x H'->g x σ H' λσ2 H2=>tb {D with nx:=N,ct:=N,bk:=D.nx} σ2 H2)
noncomputable def KD (fp:List Addr) (h:Heap):List (Addr×Obj):=fp.filterMap λb=>(h.get? b).map λo=>(b,o)
theorem bK {fp:List Addr} {h:Heap} {b:Addr} {o:Obj} (hb:b∈fp) (e:h.get? b=some o):(b,o)∈KD fp h:=List.mem_filterMap.mpr ⟨b,hb,by rw[e];rfl⟩
theorem qX {fp:List Addr} {h:Heap} {p:Addr×Obj} (hp:p∈KD fp h):p.1∈fp/\h.get? p.1=some p.2:=by
 obtain⟨b,hb,e⟩:=List.mem_filterMap.mp hp;cases q:h.get? b with
 |none=>rw[q] at e;cases e
 |some o=>
  rw[q] at e;have e':(b,o)=p:=Option.some.inj e;subst e';exact⟨hb,q⟩
theorem jA.pinned {pins:List (Addr×Obj)} {σ:St} {H:Hp} {s:Shared} {fp:List Addr} (I:jA X pins σ H s) (hf:∀b∈fp,xC X pins H b) (ho:∀b∈fp,∃o,s.heap.get? b=some o/\∀v,o.data≠.cell v):jA X (pins++KD fp s.heap) σ H s:=
 I.pins_of λp hp=>(List.mem_append.mp hp).elim (λz=>I.pin p (List.mem_append_right _ z)) λz=>by
  obtain⟨hb,e⟩:=qX z;obtain⟨f0,f1,f2,_⟩:=hf p.1 hb;obtain⟨o,e',d⟩:=ho p.1 hb;rw[e] at e';cases e';exact⟨e,f0,f1,f2,d⟩
theorem jA.unpinned {pins pl:List (Addr×Obj)} {σ:St} {H:Hp} {s:Shared} (I:jA X (pins++pl) σ H s):jA X pins σ H s:=I.pins_of λp hp=>I.pin p (List.mem_append_right _ (List.mem_append_left _ hp))
theorem oI {iter:Expr} {body:List Stmt} {wi:TI} {g:TG} {tb:TS} {pos:Pos} (hp:PassesOwn (model X.prog X.w) X.A X.env X.xe) (hc:X.calm=true) (hi:PI X tg iter wi) (hg:PG X tg g) (hb:WD X body tb)
  (hs:∀x,foldedSetIterable iter X.env x=pure x:=by intro _;rfl):PS X (.For tg iter body [] pos) (kO wi g tb):=by
 intro pins s σ H D I h;refine wpAny_For (YA (hi pins s σ H _ I h) λv s1 h1=>YA h1 λitv s2 h2=>?_) hs;obtain⟨it,fp,tn,J,H2,e,I2,T,st2,f2,W,⟨m0,w0⟩,turn⟩:=h2;subst e;have stat:∀{H':Hp},(∀b∈fp,H' b=none)->∀b∈fp,xC X pins H' b:=λhn b hb=>⟨hn b hb,(f2 b hb).2⟩
 refine codeAny_forLoop_any (λn s'=>∃i σ' H',jA X pins σ' H' s'/\tn i s'.heap/\(∀b∈fp,H' b=none)/\W i n σ' H') ?_ m0 ⟨0,σ,H2,I2,st2,λb hb=>(f2 b hb).1,w0⟩;rintro n s3 ⟨i,σ3,H3,I3,st3,fr3,w3⟩;rcases turn i n σ3 H3 w3 with ⟨stop,qn⟩|⟨go,N,hN,step⟩
 ·refine wpAny_passesOwn hp (YA (T.done X rfl rfl rfl hc i pins s3 σ3 H3 X.xe I3 (stat fr3) st3 stop) λr s4 ⟨hr,I4⟩=>?_);subst hr;exact wpAny_execs_nil ⟨σ3,H3,I4,qn⟩
 ·refine wpAny_passesOwn hp (YA (T.item X rfl rfl rfl hc i pins s3 σ3 H3 X.xe I3 (stat fr3) st3 go) λr s4 ⟨u,hr,h4⟩=>?_);subst hr;refine wpAny_passesOwn hp (YA h4 λ_ s5 ⟨x,H5,I5,r5,y5,st5,fr5⟩=>?_);have I5':=I5.pinned (stat fr5) (T.obj _ _ st5);refine wpAny_passesOwn hp (YA (hg _ s5 σ3 H5 x u _ I5' r5 (step x H5 y5)) λ_ s6 ⟨σ6,H6,I6,q6⟩=>?_);refine wpAny_passesOwn hp (YA (hb _ s6 σ6 H6 _ I6 q6) λf s7 q7=>?_);have again:∀{σ7:St} {H7:Hp},jA X (pins++KD fp s5.heap) σ7 H7 s7->N σ7 H7->∃m,m < n/\∃i σ' H',jA X pins σ' H' s7/\tn i s7.heap/\(∀b∈fp,H' b=none)/\W i m σ' H':=λ{σ7 H7} I7 n7=>by
   obtain⟨m',hm,w7⟩:=hN σ7 H7 n7;refine⟨m',hm,i+1,σ7,H7,I7.unpinned,T.keep _ _ _ st5 λb hb o e=>(I7.pin (b,o) (List.mem_append_right _ (List.mem_append_right _ (bK hb e)))).1,λb hb=>?_,w7⟩;obtain⟨o,e,d⟩:=T.obj _ _ st5 b hb;exact (I7.pin (b,o) (List.mem_append_right _ (List.mem_append_right _ (bK hb e)))).2.1
  cases f with
  |next=>obtain⟨σ7,H7,I7,n7⟩:=q7;exact again I7 n7
  |cont=>obtain⟨σ7,H7,I7,n7⟩:=q7;exact again I7 n7
  |brk=>obtain⟨σ7,H7,I7,q7⟩:=q7;exact⟨σ7,H7,I7.unpinned,q7⟩
  |ret v=>obtain⟨x7,σ7,H7,I7,r7,q7⟩:=q7;exact⟨x7,σ7,H7,I7.unpinned,r7,q7⟩
end
theorem rX {K:PySem.W.Frag} {a:Addr} {xs:List V} {g:TG} {tb:TS} {D:fC} {σ:St} {H:Hp} (Pv:Nat->St->Hp->Prop) (h0:Pv 0 σ H) (hl:∀i σ H,i<=xs.length->Pv i σ H->kA K H a xs)
  (hs:∀i x σ H,xs[i]?=some x->Pv i σ H->g x σ H λσ2 H2=>tb {D with nx:=Pv (i+1),ct:=Pv (i+1),bk:=D.nx} σ2 H2) (hd:∀σ H,Pv xs.length σ H->D.nx σ H):
  ∃W:Nat->Nat->St->Hp->Prop,(∃m,W 0 m σ H)/\∀i m σ H,W i m σ H->
   ((UG K a).stop i H/\D.nx σ H)\/((UG K a).go i H/\∃N:St->Hp->Prop,(∀σ' H',N σ' H'->∃m',m' < m/\W (i+1) m' σ' H')/\∀x H',(UG K a).yld i H x H'->g x σ H' λσ2 H2=>tb {D with nx:=N,ct:=N,bk:=D.nx} σ2 H2):=by
 refine⟨λi m σ H=>m=xs.length - i/\i<=xs.length/\Pv i σ H,⟨xs.length,by simp,Nat.zero_le _,h0⟩,?_⟩;rintro i m σ H ⟨rfl,hi,p⟩;have q:=hl i σ H hi p;by_cases hlt:i < xs.length
 ·refine .inr ⟨⟨xs,xs[i],q,by simp[hlt]⟩,Pv (i+1),λσ' H' p'=>⟨xs.length - (i+1),⋯,rfl,hlt,p'⟩,λx H' y=>?_⟩;obtain⟨e,y⟩:=y;subst e;exact hs i x σ _ (y xs q) p
 ·have e:i=xs.length:=⋯;subst e;exact .inl ⟨⟨xs,q,Nat.le_refl _⟩,hd σ H p⟩
theorem sX {lo:Int} {n:Nat} {g:TG} {tb:TS} {D:fC} {σ:St} {H:Hp} (Pv:Nat->St->Hp->Prop) (h0:Pv 0 σ H)
  (hs:∀i σ H,i < n->Pv i σ H->g (.int (lo+i)) σ H λσ2 H2=>tb {D with nx:=Pv (i+1),ct:=Pv (i+1),bk:=D.nx} σ2 H2) (hd:∀σ H,Pv n σ H->D.nx σ H):
  ∃W:Nat->Nat->St->Hp->Prop,(∃m,W 0 m σ H)/\∀i m σ H,W i m σ H->
   ((VG lo n).stop i H/\D.nx σ H)\/((VG lo n).go i H/\∃N:St->Hp->Prop,(∀σ' H',N σ' H'->∃m',m' < m/\W (i+1) m' σ' H')/\∀x H',(VG lo n).yld i H x H'->g x σ H' λσ2 H2=>tb {D with nx:=N,ct:=N,bk:=D.nx} σ2 H2):=by
 refine⟨λi m σ H=>m=n - i/\i<=n/\Pv i σ H,⟨n,by simp,Nat.zero_le _,h0⟩,?_⟩;rintro i m σ H ⟨rfl,hi,p⟩;by_cases hlt:i < n
 ·refine .inr ⟨hlt,Pv (i+1),λσ' H' p'=>⟨n - (i+1),⋯,rfl,hlt,p'⟩,λx H' y=>?_⟩;obtain⟨e,y⟩:=y;subst e y;exact hs i σ _ hlt p
 ·have e:i=n:=⋯;subst e;exact .inl ⟨Nat.le_refl _,hd σ H p⟩
end L2
namespace L2
open PySem PySem.Spec PyProof.Rows
noncomputable abbrev R2:=V->V->Hp->VK->Prop
noncomputable def OC (X:Cx) (f:Value->Value->Sem Value) (r:R2):Prop:=
 ∀(pins:List (Addr×Obj)) (s:Shared) (σ:St) (H:Hp) (x y:V) (v u:Value) (Q:VK),jA X pins σ H s->sA x v->sA y u->r x y H Q->
  wpAny (model X.prog X.w) X.A (f v u) (EP X pins σ Q) X.xe s
noncomputable def lC (X:Cx) (f:Value) (r:List V->Hp->VK->Prop):Prop:=
 ∀(pins:List (Addr×Obj)) (s:Shared) (σ:St) (H:Hp) (xs:List V) (us:List Value) (Q:VK),jA X pins σ H s->pA xs us->r xs H Q->
  wpAny (model X.prog X.w) X.A (call f us) (EP X pins σ Q) X.xe s
noncomputable def TruR (X:Cx) (r:V->Hp->(Bool->Hp->Prop)->Prop):Prop:=
 ∀(pins:List (Addr×Obj)) (s:Shared) (σ:St) (H:Hp) (x:V) (v:Value) (Q:Bool->Hp->Prop),jA X pins σ H s->sA x v->r x H Q->
  wpAny (model X.prog X.w) X.A (truthy v) (TP X pins σ Q) X.xe s
noncomputable def pI (r:R2) (ta tb:TE):TE:=λσ H Q=>ta σ H λx H1=>tb σ H1 λy H2=>r x y H2 Q
noncomputable def rI (C:Int->Int->Prop) (g:Int->Int->V):R2:=λx y H Q=>∃i j,x=.int i/\y=.int j/\C i j/\Q (g i j) H
noncomputable def uG (g:Int->Int->V):R2:=λx y H Q=>∃i j,x=.int i/\y=.int j/\Q (g i j) H
section
variable {X:Cx} {a b c:Expr} {ta tb tc:TE} {pos:Pos}
theorem qI (ha:PE X a ta) (hb:PE X b tb) {pins:List (Addr×Obj)} {s:Shared} {σ:St} {H:Hp} {R:V->V->Hp->Prop} (I:jA X pins σ H s)
  (h:ta σ H λx H1=>tb σ H1 λy H2=>R x y H2) {Q:Value->Shared->Prop} {f:Value->Value->Sem Value}
  (hf:∀v u s2 x y H2,jA X pins σ H2 s2->sA x v->sA y u->R x y H2->wpAny (model X.prog X.w) X.A (f v u) Q X.xe s2):
  wpAny (model X.prog X.w) X.A (eval a X.env) (λv s₁=>wpAny (model X.prog X.w) X.A (eval b X.env) (λu s₂=>wpAny (model X.prog X.w) X.A (f v u) Q X.xe s₂) X.xe s₁) X.xe s:=by
 refine YA (ha pins s σ H _ I h) λv s1 ⟨x,H1,I1,r1,q1⟩=>?_;refine YA (hb pins s1 σ H1 _ I1 q1) λu s2 ⟨y,H2,I2,r2,q2⟩=>?_;exact hf v u s2 x y H2 I2 r1 r2 q2
theorem VA {op:Operator} {r:R2} (ho:OC X (binaryOp op) r) (ha:PE X a ta) (hb:PE X b tb):PE X (.BinOp a op b pos) (pI r ta tb):=by
 intro pins s σ H Q I h;exact wpAny_BinOp (qI ha hb I h λv u s2 x y H2 I2 rx ry q=>ho pins s2 σ H2 x y v u Q I2 rx ry q)
theorem SK {f:Value->Value->Sem Value} {C:Int->Int->Prop} {g:Int->Int->Int}
  (rule:∀(i j:Int) (t u:Tok) (s:Shared) (Q:Value->Shared->Prop) (E:Value->Shared->Prop),C i j->Q (.int (g i j) s.toks) {s with toks:=s.toks+1}->wpAny (model X.prog X.w) X.A (f (.int i t) (.int j u)) Q E s):
  OC X f (rI C λi j=>.int (g i j)):=by
 intro pins s σ H x y v u Q I rx ry h;obtain⟨i,j,rfl,rfl,hc,q⟩:=h;obtain⟨t,rfl⟩:=rx;obtain⟨t',rfl⟩:=ry;exact rule i j t t' s _ _ hc ⟨.int (g i j),H,I.tok _,⟨_,rfl⟩,q⟩
theorem TK {f:Value->Value->Sem Value} {g:Int->Int->Int}
  (rule:∀(i j:Int) (t u:Tok) (s:Shared) (Q:Value->Shared->Prop) (E:Value->Shared->Prop),Q (.int (g i j) s.toks) {s with toks:=s.toks+1}->wpAny (model X.prog X.w) X.A (f (.int i t) (.int j u)) Q E s):
  OC X f (uG λi j=>.int (g i j)):=by
 intro pins s σ H x y v u Q I rx ry h;obtain⟨i,j,rfl,rfl,q⟩:=h;obtain⟨t,rfl⟩:=rx;obtain⟨t',rfl⟩:=ry;exact rule i j t t' s _ _ ⟨.int (g i j),H,I.tok _,⟨_,rfl⟩,q⟩
theorem sI {f:Value->Value->Sem Value} {g:Int->Int->Bool}
  (rule:∀(i j:Int) (t u:Tok) (s:Shared) (Q:Value->Shared->Prop) (E:Value->Shared->Prop),Q (.bool (g i j)) s->wpAny (model X.prog X.w) X.A (f (.int i t) (.int j u)) Q E s):
  OC X f (uG λi j=>.bl (g i j)):=by
 intro pins s σ H x y v u Q I rx ry h;obtain⟨i,j,rfl,rfl,q⟩:=h;obtain⟨t,rfl⟩:=rx;obtain⟨t',rfl⟩:=ry;exact rule i j t t' s _ _ ⟨.bl (g i j),H,I,rfl,q⟩
noncomputable def UK (i j:Int):Prop:=0 < j/\j < 1073741824
noncomputable def WK (i j:Int):Prop:=0<=j/\j<=1000000/\i.natAbs < 2 ^ 64
noncomputable def vG (i j:Int):Prop:=(-(2 ^ 64) < i/\i < 2 ^ 64)\/(-(2 ^ 64) < j/\j < 2 ^ 64)
theorem vG.ok {i j:Int} (h:vG i j):IntMulOk i j:=by
 rcases h with ⟨h1,h2⟩|⟨h1,h2⟩
 ·exact .of_left (intBits_le_64 h1 h2)
 ·exact .of_right (intBits_le_64 h1 h2)
theorem two_pow_nn (k:Nat):(0:Int)<=2 ^ k:=by
 rw[two_pow_cast];exact Int.natCast_nonneg _
theorem zD:OC X (binaryOp .Add) (uG λi j=>.int (i+j)):=TK λ_ _ _ _ _ _ _ q=>add_int q
theorem ZT:OC X (binaryOp .Sub) (uG λi j=>.int (i - j)):=TK λ_ _ _ _ _ _ _ q=>sub_int q
theorem aU:OC X (binaryOp .Mult) (rI vG λi j=>.int (i * j)):=SK λ_ _ _ _ _ _ _ hc q=>mul_int q hc.ok
theorem ZE:OC X (binaryOp .FloorDiv) (rI UK λi j=>.int (i / j)):=SK λi j _ _ _ _ _ hc q=>by
 have h1:(0:Int) < j:=hc.1;have h2:j < 1073741824:=hc.2;exact floordiv_int ⋯ (by rw[Int.fdiv_eq_ediv_of_nonneg i ⋯];exact q) (.inl (PyProof.noPylong_small ⋯))
theorem FC:OC X (binaryOp .Mod) (rI (λ_ j=>0 < j) λi j=>.int (i % j)):=SK λi j _ _ _ _ _ hc q=>by
 have h1:(0:Int) < j:=hc;exact mod_int' ⋯ (by rw[Int.fmod_eq_emod_of_nonneg i ⋯];exact q)
theorem OM:OC X (binaryOp .Pow) (rI WK λi j=>.int (i ^ j.toNat)):=SK λ_ _ _ _ _ _ _ hc q=>pow_int_small hc.1 hc.2.1 hc.2.2 q
theorem tI:OC X (binaryOp .RShift) (rI (λ_ j=>0<=j) λi j=>.int (i / 2 ^ j.toNat)):=SK λi j _ _ _ _ _ hc q=>
 rshift_int hc (by rw[Int.fdiv_eq_ediv_of_nonneg i (two_pow_nn _)];exact q)
end
noncomputable def zF:V->V->Bool
 |.non,.non=>true|.non,.int _=>true|.int _,.non=>true|.non,.bl _=>true|.bl _,.non=>true|.non,.str _=>true|.str _,.non=>true
 |.int _,.int _=>true|.bl _,.bl _=>true|.str _,.str _=>true|.byt _,.byt _=>true
 |.int _,.str _=>true|.str _,.int _=>true|.bl _,.str _=>true|.str _,.bl _=>true
 |_,_=>false
noncomputable def rEq:R2:=λx y H Q=>zF x y=true/\Q (.bl (decide (x=y))) H
noncomputable def rNe:R2:=λx y H Q=>zF x y=true/\Q (.bl (!decide (x=y))) H
theorem bU {i j:Int}:decide (V.int i=V.int j)=(i == j):=by
 rw[Bool.eq_iff_iff];simp
theorem cU {i j:Bool}:decide (V.bl i=V.bl j)=(i == j):=by
 rw[Bool.eq_iff_iff];simp
theorem dU {i j:Str}:decide (V.str i=V.str j)=(i == j):=by
 rw[Bool.eq_iff_iff];simp
theorem eU {i j:Array UInt8}:decide (V.byt i=V.byt j)=(i.toList == j.toList):=by
 rw[Bool.eq_iff_iff];cases i;cases j;simp
section
variable {X:Cx} {a b c:Expr} {ta tb tc:TE} {pos:Pos}
theorem mC {pins:List (Addr×Obj)} {σ:St} {H:Hp} {s:Shared} {Q:VK} {k k':Bool} (I:jA X pins σ H s) (q:Q (.bl k) H) (e:k=k'):EP X pins σ Q (.bool k') s:=by
 subst e;exact⟨.bl k,H,I,rfl,q⟩
theorem vE:OC X (compareOp .Eq) rEq:=by
 intro pins s σ H x y v u Q I rx ry h;obtain⟨hs,q⟩:=h;cases x with
 |non=>
  cases rx;cases y with
  |non=>cases ry;exact PySem.EqNone.eq_none_none (mC I q (by simp))
  |bl j=>cases ry;exact PySem.EqNone.eq_none_bool (mC I q (by simp))
  |int j=>obtain⟨t',rfl⟩:=ry;exact PySem.EqNone.eq_none_int (mC I q (by simp))
  |str j=>obtain⟨t',rfl⟩:=ry;exact PySem.EqNone.eq_none_str (mC I q (by simp))
  |_=>exact absurd (show false=true from hs) Bool.false_ne_true
 |bl i=>
  cases rx;cases y with
  |non=>cases ry;exact PySem.EqNone.eq_bool_none (mC I q (by simp))
  |bl j=>cases ry;exact eq_bool (mC I q cU)
  |str j=>obtain⟨t',rfl⟩:=ry;exact PySem.EqMixed.eq_bool_str (mC I q (by simp))
  |_=>exact absurd (show false=true from hs) Bool.false_ne_true
 |int i=>
  obtain⟨t,rfl⟩:=rx;cases y with
  |non=>cases ry;exact PySem.EqNone.eq_int_none (mC I q (by simp))
  |int j=>obtain⟨t',rfl⟩:=ry;exact eq_int (mC I q bU)
  |str j=>obtain⟨t',rfl⟩:=ry;exact PySem.EqMixed.eq_int_str (mC I q (by simp))
  |_=>exact absurd (show false=true from hs) Bool.false_ne_true
 |str i=>
  obtain⟨t,rfl⟩:=rx;cases y with
  |non=>cases ry;exact PySem.EqNone.eq_str_none (mC I q (by simp))
  |bl j=>cases ry;exact PySem.EqMixed.eq_str_bool (mC I q (by simp))
  |int j=>obtain⟨t',rfl⟩:=ry;exact PySem.EqMixed.eq_str_int (mC I q (by simp))
  |str j=>obtain⟨t',rfl⟩:=ry;exact eq_str (mC I q dU)
  |_=>exact absurd (show false=true from hs) Bool.false_ne_true
 |byt i=>
  obtain⟨t,rfl⟩:=rx;cases y with
  |byt j=>obtain⟨t',rfl⟩:=ry;exact PySem.W.eq_bytes (mC I q eU)
  |_=>exact absurd (show false=true from hs) Bool.false_ne_true
 |_=>cases y<;>exact absurd (show false=true from hs) Bool.false_ne_true
theorem lO:OC X (compareOp .NotEq) rNe:=by
 intro pins s σ H x y v u Q I rx ry h;obtain⟨hs,q⟩:=h;cases x with
 |non=>
  cases rx;cases y with
  |non=>cases ry;exact PySem.EqNone.ne_none_none (mC I q (by simp))
  |bl j=>cases ry;exact PySem.EqNone.ne_none_bool (mC I q (by simp))
  |int j=>obtain⟨t',rfl⟩:=ry;exact PySem.EqNone.ne_none_int (mC I q (by simp))
  |str j=>obtain⟨t',rfl⟩:=ry;exact PySem.EqNone.ne_none_str (mC I q (by simp))
  |_=>exact absurd (show false=true from hs) Bool.false_ne_true
 |bl i=>
  cases rx;cases y with
  |non=>cases ry;exact PySem.EqNone.ne_bool_none (mC I q (by simp))
  |bl j=>cases ry;exact ne_bool (mC I q (congrArg not cU))
  |str j=>obtain⟨t',rfl⟩:=ry;exact PySem.EqMixed.ne_bool_str (mC I q (by simp))
  |_=>exact absurd (show false=true from hs) Bool.false_ne_true
 |int i=>
  obtain⟨t,rfl⟩:=rx;cases y with
  |non=>cases ry;exact PySem.EqNone.ne_int_none (mC I q (by simp))
  |int j=>obtain⟨t',rfl⟩:=ry;exact ne_int (mC I q (congrArg not bU))
  |str j=>obtain⟨t',rfl⟩:=ry;exact PySem.EqMixed.ne_int_str (mC I q (by simp))
  |_=>exact absurd (show false=true from hs) Bool.false_ne_true
 |str i=>
  obtain⟨t,rfl⟩:=rx;cases y with
  |non=>cases ry;exact PySem.EqNone.ne_str_none (mC I q (by simp))
  |bl j=>cases ry;exact PySem.EqMixed.ne_str_bool (mC I q (by simp))
  |int j=>obtain⟨t',rfl⟩:=ry;exact PySem.EqMixed.ne_str_int (mC I q (by simp))
  |str j=>obtain⟨t',rfl⟩:=ry;exact ne_str (mC I q (congrArg not dU))
  |_=>exact absurd (show false=true from hs) Bool.false_ne_true
 |byt i=>
  obtain⟨t,rfl⟩:=rx;cases y with
  |byt j=>obtain⟨t',rfl⟩:=ry;exact PySem.W.ne_bytes (mC I q (congrArg not eU))
  |_=>exact absurd (show false=true from hs) Bool.false_ne_true
 |_=>cases y<;>exact absurd (show false=true from hs) Bool.false_ne_true
theorem PM:OC X (compareOp .Lt) (uG λi j=>.bl (decide (i < j))):=sI λ_ _ _ _ _ _ _ q=>lt_int q
theorem YG:OC X (compareOp .Gt) (uG λi j=>.bl (decide (j < i))):=sI λ_ _ _ _ _ _ _ q=>gt_int q
theorem YK:OC X (compareOp .GtE) (uG λi j=>.bl (decide (j<=i))):=sI λ_ _ _ _ _ _ _ q=>ge_int q
theorem LD:OC X (compareOp .Is) (λx y H Q=>y=.non/\Q (.bl (decide (x=.non))) H):=by
 intro pins s σ H x y v u Q I rx ry h;obtain⟨rfl,q⟩:=h;cases ry;refine is_none_gen (mC I q ?_);cases x<;>first
  |(cases rx;rfl)
  |(obtain⟨t,rfl⟩:=rx;rfl)
theorem MD:OC X (compareOp .IsNot) (λx y H Q=>y=.non/\Q (.bl (!decide (x=.non))) H):=by
 intro pins s σ H x y v u Q I rx ry h;obtain⟨rfl,q⟩:=h;cases ry;refine isnot_none_gen (mC I q ?_);cases x<;>first
  |(cases rx;rfl)
  |(obtain⟨t,rfl⟩:=rx;rfl)
theorem gA (b:Expr) {op:CmpOp} (h:op≠.In:=by decide) (h2:op≠.NotIn:=by decide):behindInMarks op b=false:=by
 have e1:(op == CmpOp.In)=false:=by cases op<;>first|rfl|exact absurd rfl h
 have e2:(op == CmpOp.NotIn)=false:=by cases op<;>first|rfl|exact absurd rfl h2
 cases b<;>simp[behindInMarks,e1,e2]
theorem uI {op:CmpOp} {r:R2} (ho:OC X (compareOp op) r) (ha:PE X a ta) (hb:PE X b tb) (hm:behindInMarks op b=false):PE X (.Compare a [op] [b] pos) (pI r ta tb):=by
 intro pins s σ H Q I h;exact wpAny_Compare1 (qI ha hb I h λv u s2 x y H2 I2 rx ry q=>ho pins s2 σ H2 x y v u Q I2 rx ry q) hm
noncomputable def ZG (t:TE):TT:=λσ H Q=>t σ H λx H'=>∃k,x=.bl k/\Q k H'
theorem qB {op:CmpOp} {r:R2} (ho:OC X (compareOp op) r) (ha:PE X a ta) (hb:PE X b tb) (hm:behindInMarks op b=false):PT X (.Compare a [op] [b] pos) (ZG (pI r ta tb)):=by
 intro pins s σ H Q I h;refine wpAny_isTrue_Compare1 (YA (ha pins s σ H _ I h) λv s1 ⟨x,H1,I1,r1,q1⟩=>YA (hb pins s1 σ H1 _ I1 q1) λu s2 ⟨y,H2,I2,r2,q2⟩=>
  YA (ho pins s2 σ H2 x y v u _ I2 r1 r2 q2) λc s3 ⟨z,H3,I3,r3,k,e,q3⟩=>?_) hm
 subst e;cases r3;exact wpAny_truthy_bool ⟨H3,I3,q3⟩
noncomputable def TruV (K:PySem.W.Frag) (x:V) (H:Hp) (k:Bool):Prop:=
 match x with
 |.non=>k=false
 |.bl b=>k=b
 |.int i=>k=(i != 0)
 |.str y=>y.length<=sizeLine/\k=((y.length:Int) != 0)
 |.byt y=>y.size<=sizeLine/\k=((y.size:Int) != 0)
 |.ref p=>(∃xs,kA K H p xs/\k= !xs.isEmpty)\/(∃xs,cB K H p xs/\k= !xs.isEmpty)\/∃kvs,H p=some (.dK kvs)/\k= !kvs.isEmpty
 |_=>False
theorem ND:(sizeLine:Nat) < 2 ^ 63:=by rw[sizeLine_eq];decide
theorem AD {x:V} {us:List Value} (r:pA [x] us):∃u,us=[u]/\sA x u:=by
 cases r with
 |cons r1 r2=>cases r2;exact⟨_,rfl,r1⟩
theorem ZK {x y:V} {us:List Value} (r:pA [x,y] us):∃u w',us=[u,w']/\sA x u/\sA y w':=by
 cases r with
 |cons r1 r2=>
  cases r2 with
  |cons r3 r4=>cases r4;exact⟨_,_,rfl,r1,r3⟩
theorem fU (hc:X.calm=true):lC X (.builtin "max") (λxs H Q=>∃i j,xs=[.int i,.int j]/\Q (.int (if j > i then j else i)) H):=by
 intro pins s σ H xs us Q I r h;obtain⟨i,j,rfl,q⟩:=h;obtain⟨u,w',rfl,⟨t,rfl⟩,⟨t',rfl⟩⟩:=ZK r;refine max_two_ints (I.ok.hd hc) λh' tk k=>⟨_,H,I.kept k,?_,q⟩
 by_cases hj:j > i
 ·rw[if_pos hj,if_pos hj];exact⟨_,rfl⟩
 ·rw[if_neg hj,if_neg hj];exact⟨_,rfl⟩
noncomputable def mO (K:PySem.W.Frag) (x:V) (H:Hp) (n:Nat):Prop:=
 match x with
 |.str y=>y.length<=sizeLine/\n=y.length
 |.byt y=>y.size<=sizeLine/\n=y.size
 |.ref p=>(∃xs,kA K H p xs/\n=xs.length)\/∃xs,cB K H p xs/\n=xs.length
 |_=>False
theorem yC:lC X (.builtin "len") (λxs H Q=>∃x n,xs=[x]/\mO X.K x H n/\Q (.int n) H):=by
 intro pins s σ H xs us Q I r h;obtain⟨x,n,rfl,e,q⟩:=h;obtain⟨u,rfl,rx⟩:=AD r;have hl:=ND;have hs:sizeLine=16777216:=sizeLine_eq;cases x with
 |str y=>
  obtain⟨t,rfl⟩:=rx;obtain⟨hy,e'⟩:y.length<=sizeLine/\n=y.length:=e;subst e';exact len_str ⋯ ⟨.int _,H,I.tok _,⟨_,rfl⟩,q⟩
 |byt y=>
  obtain⟨t,rfl⟩:=rx;obtain⟨hy,e'⟩:y.size<=sizeLine/\n=y.size:=e;subst e';exact PySem.W.len_bytes ⋯ ⟨.int _,H,I.tok _,⟨_,rfl⟩,q⟩
 |ref p=>
  cases rx;have e':(∃xs,kA X.K H p xs/\n=xs.length)\/∃xs,cB X.K H p xs/\n=xs.length:=e;rcases e' with ⟨xs,hx,e'⟩|⟨xs,hx,e'⟩
  ·subst e';obtain⟨its,r',pl,hz⟩:=I.list hx;have hlen:=r'.length;exact Calls.call_len_list pl.isList (by simp only[List.size_toArray];omega) ⟨.int xs.length,H,I.tok _,⟨_,by simp only[List.size_toArray];rw[hlen]⟩,q⟩
  ·subst e';obtain⟨its,r',pl,hz⟩:=I.tuple hx;have hlen:=r'.length;exact len_tuple pl (by simp only[List.size_toArray];omega) ⟨.int xs.length,H,I.tok _,⟨_,by simp only[List.size_toArray];rw[hlen]⟩,q⟩
 |_=>exact (show False from e).elim
end
end L2
namespace L2
open PySem PySem.Spec PyProof.Rows
structure wE (h:Heap) (x dx C:Addr) (mA:Str->Option Value):Prop where
 obj:h.get? x=some (PySem.W.instObj C dx)
 ns:h.Ns1 dx mA
 ne:dx≠x
theorem tX {h:Heap} {dx:Addr} {mA:Str->Option Value} (n:h.Ns1 dx mA):∃od,h.get? dx=some od/\∀name,PySem.W.lookIn name od=some (mA name):=by
 obtain⟨o,es,ep,ho,hd,hk,_,hm⟩:=n;refine⟨o,ho,λname=>?_⟩;have e:=hm name;unfold nsFind findBy at e;rw[<-Array.find?_toList] at e;unfold PySem.W.lookIn;rw[hd];dsimp only
 split
 ·rename_i y q;rw[q] at e;exact congrArg some e
 ·rename_i q;rw[q] at e;have a:es.toList.any (·.refKey)=false:=by
   rw[List.any_eq_false];intro y hy;obtain⟨z,t,hkey⟩:=hk y (Array.mem_toList_iff.mp hy);simp[DictEntry.refKey,hkey]
  have a':¬es.toList.any (·.refKey)=true:=by rw[a];exact Bool.false_ne_true
  rw[if_neg a'];exact congrArg some e
theorem wE.look {h:Heap} {x dx C:Addr} {mA:Str->Option Value} (I:wE h x dx C mA):∃od,PySem.W.InstAt h x (PySem.W.instObj C dx) C (some od)/\∀name,PySem.W.lookIn name od=some (mA name):=
 let ⟨od,ho,hl⟩:=tX I.ns
 ⟨od,⟨I.obj,rfl,rfl,ho⟩,hl⟩
section
variable {prog:Program} {w:World} {A:Around} {E:Value->Shared->Prop} {s:Shared} {K:PySem.W.Frag} {x dx C f:Addr} {mA:Str->Option Value} {name:Str} {v:Value}
theorem uX {expr:Bool} {Q:Value->Shared->Prop} (X:K.In s.heap) (I:wE s.heap x dx C mA) (hg:PySem.W.plainGet K C name=true) (hh:PySem.W.hasDictIn K C=true)
  (ha:PySem.W.findIn K (.ref C) name=some none) (hv:mA name=some v) (hv':PySem.W.handedIn v=true) (h:Q v {s with toks:=s.toks+1}):
  wpAny (model prog w) A (getAttr (.ref x) name expr) Q E s:=by
 obtain⟨od,J,hl⟩:=I.look;exact PySem.W.get_value X J (PySem.W.plainGet_of hg).1 (PySem.W.findObj_own hh ha rfl (by rw[hl,hv])) hv' h
theorem vX {pl:Sem Bool} {Q:Value×List Value->Shared->Prop} (X:K.In s.heap) (I:wE s.heap x dx C mA) (hg:PySem.W.plainGet K C name=true)
  (hf:PySem.W.findIn K (.ref C) name=some (some (.ref f))) (ht:PySem.W.isFn K (.ref f)=true) (hv:mA name=none) (h:Q (.ref f,[.ref x]) s):
  wpAny (model prog w) A (getMethod (.ref x) name pl) Q E s:=by
 obtain⟨od,J,hl⟩:=I.look;exact PySem.W.method_fn X J (PySem.W.plainGet_of hg).1 (PySem.W.plainGet_of hg).2 hf (beq_iff_eq.mp ht) (by show (PySem.W.lookIn name od).map (·.isSome)=some false;rw[hl,hv];rfl) h
theorem wX {ns:List Str} {Q:Unit->Shared->Prop} (X:K.In s.heap) (I:wE s.heap x dx C mA)
  (hs:PySem.W.findIn K (.ref C) "__setattr__"=some (some (.builtin "object.__setattr__"))) (hp:PySem.W.plainOver K C=true) (ht:PySem.W.takerIn K C name=some none) (hh:PySem.W.hasDictIn K C=true)
  (hw:PySem.Within mA ns) (hsz:ns.length<=sizeLine)
  (h:∀h',wE h' x dx C (λy=>if y=name then some v else mA y)->Heap.SameBut dx s.heap h'->Q () {s with heap:=h',toks:=s.toks+2}):
  wpAny (model prog w) A (setAttr (.ref x) name v) Q E s:=by
 obtain⟨od,J,hl⟩:=I.look;refine PySem.W.set_plain X J hs (PySem.W.osa_open (s:={s with toks:=s.toks+1}) (r:=none) X J hp ht λb=>?_);obtain⟨cd,hc,hd'⟩:=PySem.W.any_some hh;have hx:s.heap.get? x=some ⟨.ref C,some dx,.plain, #[]⟩:=I.obj;refine wpAny_bind (wpAny_pure (wpAny_bind (wpAny_bind (wpAny_loadPart hx (wpAny_bind (PySem.W.Looks.here (s:={s with toks:=s.toks+1}) (PySem.W.looks_clsIn X hc) ?_))))));rw[hd'];refine wpAny_pure (a:=some dx) (wpAny_bind (wpAny_pure (wpAny_bind ?_)));refine wpAny_nsSet1 (s:={s with toks:=s.toks+1}) I.ns λh' hn2 hs2=>?_;obtain⟨oD,esD,epD,hoD,hdD,hcD⟩:=hn2.count (PySem.Within.cons name v hw);refine wpAny_bind (wpAny_lookBehind hoD (by rw[hdD];exact pastItsLine_dict (Nat.le_trans hcD (by rw[List.length_cons];omega))) ?_);exact wpAny_pure (h _ ⟨(hs2.2 _ (Ne.symm I.ne)).trans I.obj,hn2,I.ne⟩ hs2)
theorem xX {R:Result->Shared->Prop} {vs:List Value} {kw:List (Str×Value)} (X:K.In s.heap) (hm:PySem.W.makesIn K C=true)
  (hi:PySem.W.findIn K (.ref C) "__init__"=some (some (.ref f))) (hf:PySem.W.typeIn K (.ref f)=some (.type "function"))
  (h:codeAny (model prog w) (A.under (.builtin "type.__call__" ⟨.ref C::vs,kw⟩)) (.call (.ref f) ⟨.ref (s.heap.objs.size+1)::vs,kw⟩) (PySem.W.InitBack (s.heap.objs.size+1) R)
   {s with heap:=(s.heap.push PySem.W.emptyDict).push (PySem.W.instObj C s.heap.objs.size)}):
  codeAny (model prog w) A (.call (.ref C) ⟨vs,kw⟩) R s:=by
 obtain⟨hh,g,d,t,os⟩:=s;exact PySem.W.make_core (PySem.W.makes_of X hm) (PySem.W.looks_findIn X hi) (λself=>PySem.W.bind_fn X self hf) (.inl rfl) h
end
noncomputable def AA (f:Str) (v:V):List (Str×V)->List (Str×V)
 |[]=>[(f,v)]
 |(g,x)::r=>if g=f then (g,v)::r else (g,x)::AA f v r
theorem aL (f g:Str) (v:V):∀fs:List (Str×V),(AA f v fs).lookup g=if g=f then some v else fs.lookup g
 |[]=>by
  show List.lookup g [(f,v)]=_;by_cases h:g=f
  ·have hb:(g == f)=true:=beq_iff_eq.mpr h;simp only[List.lookup,hb,if_pos h]
  ·have hb:(g == f)=false:=beq_eq_false_iff_ne.mpr h;simp only[List.lookup,hb,if_neg h]
 |(k,x)::r=>by
  have ih:=aL f g v r;rw[show AA f v ((k,x)::r)=(if k=f then (k,v)::r else (k,x)::AA f v r) from rfl];by_cases hk:k=f
  ·rw[if_pos hk];by_cases h:g=k
   ·have hb:(g == k)=true:=beq_iff_eq.mpr h;simp only[List.lookup,hb,if_pos (h.trans hk)]
   ·have hb:(g == k)=false:=beq_eq_false_iff_ne.mpr h;simp only[List.lookup,hb,if_neg (λe:g=f=>h (e.trans hk.symm))]
  ·rw[if_neg hk];by_cases h:g=k
   ·have hb:(g == k)=true:=beq_iff_eq.mpr h;simp only[List.lookup,hb,if_neg (λe:g=f=>hk (h.symm.trans e))]
   ·have hb:(g == k)=false:=beq_eq_false_iff_ne.mpr h;simp only[List.lookup,hb];exact ih
theorem nO (f:Str) (v:V):∀fs:List (Str×V),f∈(AA f v fs).map (·.1)/\∀g,g∈fs.map (·.1)->g∈(AA f v fs).map (·.1)
 |[]=>⟨by simp[AA],λg h=>by simp at h⟩
 |(k,x)::r=>by
  obtain⟨i1,i2⟩:=nO f v r;rw[show AA f v ((k,x)::r)=(if k=f then (k,v)::r else (k,x)::AA f v r) from rfl];by_cases hk:k=f
  ·rw[if_pos hk];subst hk;exact⟨by simp,λg h=>by simpa using h⟩
  ·rw[if_neg hk];refine⟨?_,λg h=>?_⟩
   ·rw[List.map_cons];exact List.mem_cons_of_mem _ i1
   ·rw[List.map_cons] at h ⊢;rcases List.mem_cons.mp h with e|e
    ·exact List.mem_cons.mpr (.inl e)
    ·exact List.mem_cons_of_mem _ (i2 g e)
theorem gU (f:Str) (v:V):∀fs:List (Str×V),(AA f v fs).length<=fs.length+1
 |[]=>by simp[AA]
 |(k,x)::r=>by
  have ih:=gU f v r;rw[show AA f v ((k,x)::r)=(if k=f then (k,v)::r else (k,x)::AA f v r) from rfl];by_cases hk:k=f
  ·rw[if_pos hk,List.length_cons,List.length_cons];omega
  ·rw[if_neg hk,List.length_cons,List.length_cons];omega
theorem vC.some_of {v:V} {o:Option Value} (r:vC (some v) o):∃u,o=some u/\sA v u:=by
 cases o with
 |none=>exact (show False from r).elim
 |some u=>exact⟨u,rfl,r⟩
theorem vC.none_of {o:Option Value} (r:vC none o):o=none:=by
 cases o with
 |none=>rfl
 |some u=>exact (show False from r).elim
theorem yX {v:V} {u:Value} (r:sA v u):PySem.W.handedIn u=true:=by
 cases v with
 |non=>cases (show u=Value.none from r);rfl
 |bl b=>cases (show u=Value.bool b from r);rfl
 |int i=>obtain⟨t,e⟩:=(show ∃t,u=Value.int i t from r);cases e;rfl
 |str x=>obtain⟨t,e⟩:=(show ∃t,u=Value.str x t from r);cases e;rfl
 |byt b=>obtain⟨t,e⟩:=(show ∃t,u=Value.bytes b t from r);cases e;rfl
 |flt b=>obtain⟨t,e⟩:=(show ∃t,u=Value.float b t from r);cases e;rfl
 |ref a=>cases (show u=Value.ref a from r);rfl
 |ty n=>cases (show u=Value.type n from r);rfl
section
variable {P:Program} {w:World} {H H':Hp} {h h':Heap} {a C dx:Addr} {fs fs':List (Str×V)}
theorem QM (hok:cC P w H h) (e:H a=some (.ins C dx fs)):∃mA,wE h a dx C mA/\(∀f,vC (fs.lookup f) (mA f))/\PySem.Within mA (fs.map (·.1))/\fs.length<=1000/\H dx=some (.own a):=by
 obtain⟨d,z,ne,ob,mA,n,r,q⟩:=(show CA P w H h a (.ins C dx fs) from hok a _ e)
 exact⟨mA,⟨ob,n,ne⟩,r,q,z,d⟩
end
structure rE (K:PySem.W.Frag) (C:Addr):Prop where
 pg:PySem.W.plainGet K C Str.empty=true
 hd:PySem.W.hasDictIn K C=true
 po:PySem.W.plainOver K C=true
 sa:PySem.W.findIn K (.ref C) "__setattr__"=some (some (.builtin "object.__setattr__"))
theorem rE.get {K:PySem.W.Frag} {C:Addr} (c:rE K C) (f:Str):PySem.W.plainGet K C f=true:=c.pg
noncomputable def dB (K:PySem.W.Frag) (C:Addr) (f:Str):Prop:=PySem.W.findIn K (.ref C) f=some none
theorem dB.taker {K:PySem.W.Frag} {C:Addr} {f:Str} (n:dB K C f):PySem.W.takerIn K C f=some none:=by
 unfold PySem.W.takerIn;rw[show PySem.W.findIn K (.ref C) f=some none from n]
 rfl
structure xE (K:PySem.W.Frag) (C:Addr) (m:Str) (f:Addr):Prop where
 at_:PySem.W.findIn K (.ref C) m=some (some (.ref f))
 fn:PySem.W.isFn K (.ref f)=true
 kp:PySem.W.keepIn K (.ref f)=true
section
variable {X:Cx} {pins:List (Addr×Obj)} {σ:St} {H:Hp} {s:Shared} {a C dx:Addr} {fs:List (Str×V)} {f:Str} {v:V} {A:Around} {E:Value->Shared->Prop}
theorem AX {b:Bool} {Q:Value->Shared->Prop} (I:jA X pins σ H s) (e:H a=some (.ins C dx fs)) (c:rE X.K C) (n:dB X.K C f) (l:fs.lookup f=some v)
  (h:∀u s',jA X pins σ H s'->sA v u->Q u s'):wpAny (model X.prog X.w) A (getAttr (.ref a) f b) Q E s:=by
 obtain⟨mA,O,r,_,_,_⟩:=QM I.hok e;obtain⟨u,hu,ru⟩:=vC.some_of (v:=v) (o:=mA f) (by rw[<-l];exact r f);exact uX I.kIn O (c.get f) c.hd n hu (yX ru) (h u _ (I.tok _) ru)
theorem hU {m:Str} {g:Addr} {pl:Sem Bool} {Q:Value×List Value->Shared->Prop} (I:jA X pins σ H s) (e:H a=some (.ins C dx fs)) (c:rE X.K C) (k:xE X.K C m g) (l:fs.lookup m=none)
  (h:Q (.ref g,[.ref a]) s):wpAny (model X.prog X.w) A (getMethod (.ref a) m pl) Q E s:=by
 obtain⟨mA,O,r,_,_,_⟩:=QM I.hok e;have hn:mA m=none:=vC.none_of (by rw[<-l];exact r m);exact vX I.kIn O (c.get m) k.at_ k.fn hn h
theorem BX {y:V} {u:Value} {Q:Unit->Shared->Prop} (I:jA X pins σ H s) (e:H a=some (.ins C dx fs)) (c:rE X.K C) (n:dB X.K C f) (hl:fs.length < 1000) (ry:sA y u)
  (h:∀s',jA X pins σ (upd H a (.ins C dx (AA f y fs))) s'->Q () s'):wpAny (model X.prog X.w) A (setAttr (.ref a) f u) Q E s:=by
 obtain⟨mA,O,r,wi,_,ho⟩:=QM I.hok e;have hz:(fs.map (·.1)).length<=sizeLine:=by rw[List.length_map,sizeLine_eq];omega
 refine wX I.kIn O c.sa c.po n.taker c.hd wi hz λh' O' sb=>h _ ?_;have hd:∃o,h'.get? dx=some o:=let ⟨o,_,_,e',_⟩:=O'.ns;⟨o,e'⟩
 refine I.write (x:=a) (e:=dx) (by rw[e];exact True.intro) (.inr ho) (λb q hb z=>(sb.2 b hb).trans z) hd ?_;refine⟨by rw[oA O.ne];exact ho,?_,O.ne,O'.obj,_,O'.ns,λg=>?_,λg hg=>?_⟩
 ·have:=gU f y fs;omega
 ·show vC ((AA f y fs).lookup g) (if g=f then some u else mA g);rw[aL];by_cases q:g=f
  ·rw[if_pos q,if_pos q];exact ry
  ·rw[if_neg q,if_neg q];exact r g
 ·by_cases q:g=f
  ·rw[q];exact (nO f y fs).1
  ·refine (nO f y fs).2 g (wi g λz=>hg ?_);show (if g=f then some u else mA g)=none;rw[if_neg q];exact z
theorem jA.made (I:jA X pins σ H s):jA X pins σ (upd (upd H s.heap.objs.size (.own (s.heap.objs.size+1))) (s.heap.objs.size+1) (.ins C s.heap.objs.size []))
  {s with heap:=(s.heap.push PySem.W.emptyDict).push (PySem.W.instObj C s.heap.objs.size)}:=by
 have e1:(s.heap.push PySem.W.emptyDict).get? s.heap.objs.size=some PySem.W.emptyDict:=Heap.get?_push_size s.heap rfl;have e2:((s.heap.push PySem.W.emptyDict).push (PySem.W.instObj C s.heap.objs.size)).get? (s.heap.objs.size+1)=some (PySem.W.instObj C s.heap.objs.size):=by
  have:=Heap.get?_push_size (s.heap.push PySem.W.emptyDict) (o:=PySem.W.instObj C s.heap.objs.size) rfl;rwa[Heap.size_push] at this
 have e3:(s.heap.push PySem.W.emptyDict).Ns s.heap.objs.size (λ_=>none):=⟨PySem.W.emptyDict, #[],_,e1,rfl,(λe he=>absurd he (by simp)),λ_=>rfl⟩
 have I1:=I.laid (a:=s.heap.objs.size) (o:=.own (s.heap.objs.size+1)) (h':=s.heap.push PySem.W.emptyDict) (t':=s.toks) (λb u q=>Heap.get?_push_of_some _ q) (Nat.le_refl _) ⟨_,e1⟩;refine I1.laid (a:=s.heap.objs.size+1) (o:=.ins C s.heap.objs.size []) (t':=s.toks) (λb u q=>Heap.get?_push_of_some _ q) (Nat.le_of_eq (Heap.size_push _ _)) ?_;have ne:s.heap.objs.size≠s.heap.objs.size+1:=Nat.ne_of_lt (Nat.lt_succ_self _);refine⟨by rw[oA ne,OA],Nat.zero_le _,ne,e2,λ_=>none,(Heap.Ns1.of_empty e3).at λo q=>Heap.get?_push_of_some _ q,λ_=>True.intro,λy hy=>absurd rfl hy⟩
theorem DX {prog:Program} {w:World} {env:Env} {e:Expr} {f:Str} {pos:Pos} {s:Shared} {Q:Value->Shared->Prop} (hb:attributeBase e f env (eval e env)=eval e env)
  (h:wpAny (model prog w) A (eval e env) (λo s₁=>wpAny (model prog w) A (getAttr o f true) Q E s₁) E s):wpAny (model prog w) A (eval (.Attribute e f pos) env) Q E s:=
 Attribute_any_ h (by rw[arm_eval_Attribute,hb])
end
noncomputable def bL (K:PySem.W.Frag) (ta:TE) (f:Str):TE:=λσ H Q=>ta σ H λx H1=>∃a C dx fs v,x=.ref a/\H1 a=some (.ins C dx fs)/\rE K C/\dB K C f/\fs.lookup f=some v/\Q v H1
noncomputable def cL (K:PySem.W.Frag) (ta tv:TE) (f:Str):TS:=λD σ H=>tv σ H λy H1=>ta σ H1 λx H2=>∃a C dx fs,x=.ref a/\H2 a=some (.ins C dx fs)/\rE K C/\dB K C f/\fs.length < 1000/\
 D.nx σ (upd H2 a (.ins C dx (AA f y fs)))
section
variable {X:Cx} {o e value:Expr} {f:Str} {pos pos' tpos:Pos} {ta tv:TE}
theorem LA (he:PE X e ta) (hb:attributeBase e f X.env (eval e X.env)=eval e X.env):PE X (.Attribute e f pos) (bL X.K ta f):=by
 intro pins s σ H Q I h;refine DX hb (YA (he pins s σ H _ I h) λu s1 ⟨x,H1,I1,rx,a,C,dx,fs,v,ex,ea,c,n,l,q⟩=>?_);subst ex;obtain rfl:u=Value.ref a:=rx;exact AX I1 ea c n l λu' s2 I2 ru=>⟨v,H1,I2,ru,q⟩
theorem yE (ha:PE X o ta) (hv:PE X value tv) (hs:swapsWith value (some (.Attribute o f pos')) pos.line X.env=pure false):PS X (.Assign [.Attribute o f pos'] value pos) (cL X.K ta tv f):=by
 intro pins s σ H D I h;refine plainObj_wpAny_Assign_Attribute (YA (hv pins s σ H _ I h) λu s1 ⟨y,H1,I1,ry,q⟩=>YA (ha pins s1 σ H1 _ I1 q) λov s2 ⟨x,H2,I2,rx,a,C,dx,fs,ex,ea,c,n,l,q2⟩=>?_) hs;subst ex;obtain rfl:ov=Value.ref a:=rx;exact BX I2 ea c n l ry λs3 I3=>⟨σ,_,I3,q2⟩
end
section
variable {X:Cx} {pins:List (Addr×Obj)} {σ:St} {H:Hp} {s:Shared} {A:Around} {E:Value->Shared->Prop} {Q:Value->Shared->Prop} {c:Value} {b:Bool}
inductive GC (K:PySem.W.Frag) (H:Hp):V->Value->Prop where
 |non:GC K H .non (.type "NoneType")
 |bl (x:Bool):GC K H (.bl x) (.type "bool")
 |int (i:Int):GC K H (.int i) (.type "int")
 |str (x:Str):GC K H (.str x) (.type "str")
 |flt (x:UInt64):GC K H (.flt x) (.type "float")
 |lst {a:Addr} {xs:List V} (e:H a=some (.lst xs)):GC K H (.ref a) (.type "list")
 |frz {a:Addr} {o:Obj} {xs:List V} (e:H a=some (.frz o (.lst xs))):GC K H (.ref a) (.type "list")
 |tup {a:Addr} {xs:List V} (e:H a=some (.tup xs)):GC K H (.ref a) (.type "tuple")
 |dK {a:Addr} {kvs:List (Key×V)} (e:H a=some (.dK kvs)):GC K H (.ref a) (.type "dict")
 |dT {a:Addr} {kvs:List (List Key×V)} (e:H a=some (.dT kvs)):GC K H (.ref a) (.type "dict")
 |ins {a C dx:Addr} {fs:List (Str×V)} (e:H a=some (.ins C dx fs)) (cl:rE K C) (ha:PySem.W.findIn K (.ref C) "__class__"=some (some (.builtin "object.__class__")))
  (hn:PySem.W.specialIn K (.builtin "object.__class__") "__get__"=some (some (.builtin "getset_descriptor.__get__"))) (htk:PySem.W.takesIn K (.builtin "object.__class__")=some true)
  (hm:PySem.W.mroIn K C (.type "object")=some true):GC K H (.ref a) (.ref C)
theorem EX {x:V} {u t:Value} (I:jA X pins σ H s) (rx:sA x u) (ty:GC X.K H x t) (e:PySem.W.kitOne X.K t c=some b) (h:∀tk,Q (.bool b) {s with toks:=tk}):
  wpAny (model X.prog X.w) A (call (.builtin "isinstance") [u,c]) Q E s:=by
 cases ty with
 |non=>cases (show u=Value.none from rx);exact PySem.W.kia_one PySem.W.kitx_none I.kIn True.intro e (λz=>nomatch z) h
 |bl y=>cases (show u=Value.bool y from rx);exact PySem.W.kia_one PySem.W.kitx_bool I.kIn True.intro e (λz=>nomatch z) h
 |int i=>obtain⟨t,q⟩:=(show ∃t,u=Value.int i t from rx);cases q;exact PySem.W.kia_one PySem.W.kitx_int I.kIn True.intro e (λz=>nomatch z) h
 |str y=>obtain⟨t,q⟩:=(show ∃t,u=Value.str y t from rx);cases q;exact PySem.W.kia_one PySem.W.kitx_str I.kIn True.intro e (λz=>nomatch z) h
 |flt y=>obtain⟨t,q⟩:=(show ∃t,u=Value.float y t from rx);cases q;exact PySem.W.kia_one PySem.W.kitx_float I.kIn True.intro e (λz=>nomatch z) h
 |@lst a xs ea=>
  cases (show u=Value.ref a from rx);obtain⟨_,_,n,_,h1⟩:=(show CA X.prog X.w H s.heap a (.lst xs) from I.hok a _ ea)
  exact PySem.W.kia_one PySem.W.kitx_list I.kIn ⟨_,h1,rfl⟩ e (λz=>nomatch z) h
 |@frz a ob xs ea=>
  cases (show u=Value.ref a from rx);obtain⟨_,_,_,n,_,h1⟩:=(show CA X.prog X.w H s.heap a (.frz ob (.lst xs)) from I.hok a _ ea)
  exact PySem.W.kia_one PySem.W.kitx_list I.kIn ⟨_,h1,rfl⟩ e (λz=>nomatch z) h
 |@tup a xs ea=>
  cases (show u=Value.ref a from rx);obtain⟨_,_,_,p⟩:=(show CA X.prog X.w H s.heap a (.tup xs) from I.hok a _ ea)
  obtain⟨o,h1,h2,_⟩:=p;exact PySem.W.kia_one PySem.W.kitx_tuple I.kIn ⟨o,h1,h2⟩ e (λz=>nomatch z) h
 |@dK a kvs ea=>
  cases (show u=Value.ref a from rx);obtain⟨_,_,vs,_,p⟩:=(show CA X.prog X.w H s.heap a (.dK kvs) from I.hok a _ ea)
  obtain⟨o,es,ep,h1,h2,_⟩:=p;exact PySem.W.kia_one PySem.W.kitx_dict I.kIn ⟨o,h1,h2.1⟩ e (λz=>nomatch z) h
 |@dT a kvs ea=>
  cases (show u=Value.ref a from rx);obtain⟨_,_,xs,_,o,es,ep,h1,h2,_⟩:=(show CA X.prog X.w H s.heap a (.dT kvs) from I.hok a _ ea)
  exact PySem.W.kia_one PySem.W.kitx_dict I.kIn ⟨o,h1,h2.1⟩ e (λz=>nomatch z) h
 |@ins a C dx fs ea cl ha hn htk hm=>
  cases (show u=Value.ref a from rx);obtain⟨mA,O,_⟩:=QM I.hok ea;obtain⟨od,J,_⟩:=O.look;exact PySem.W.kia_one (PySem.W.kitx_own (cl.get _) cl.hd ha hn htk hm) I.kIn J e (λz=>nomatch z) h
end
end L2
namespace L2
open PySem PySem.Spec PyProof.Rows
structure rB (k:Nat) (A:Around):Prop where
 hd:A.handled=none
 dp:A.depth+3 * k+5 < recursionLimit
 un:A.units+16 * k+200 < cLine
theorem rB.mono {j k:Nat} {A:Around} (r:rB k A) (h:j<=k):rB j A:=⟨r.hd,by have:=r.dp;omega,by have:=r.un;omega⟩
theorem rB.deeper {k:Nat} {A:Around} (r:rB (k+1) A) (env:Env):rB k (A.deeper env):=
 ⟨r.hd,by have:=r.dp;show A.depth+1+3 * k+5 < _;omega,by have:=r.un;show A.units+3+16 * k+200 < _;omega⟩
theorem FX {A:Around} {C:Addr} {us:List Value} {kw:List (Str×Value)}:(A.under (.builtin "type.__call__" ⟨.ref C::us,kw⟩)).depth=A.depth+1:=by
 first|rfl|simp[Around.under,Code.weight,Code.isCreation,Code.isGuard,Code.isCaller,Code.frames,Code.isFrame,guardIds]
theorem GX {A:Around} {C:Addr} {us:List Value} {kw:List (Str×Value)}:(A.under (.builtin "type.__call__" ⟨.ref C::us,kw⟩)).units=A.units+1:=by
 first|rfl|simp[Around.under,Code.cUnits,Code.frames,Code.isFrame]
theorem rB.make {k:Nat} {A:Around} (r:rB (k+1) A) (C:Addr) (us:List Value) (kw:List (Str×Value)):rB k (A.under (.builtin "type.__call__" ⟨.ref C::us,kw⟩)):=
 ⟨r.hd,by have:=r.dp;rw[FX];omega,by have:=r.un;rw[GX];omega⟩
theorem rB.depth {k:Nat} {A:Around} (r:rB k A):A.depth < recursionLimit:=by have:=r.dp;omega
theorem rB.units {k:Nat} {A:Around} (r:rB k A):A.units+64 < cLine:=by have:=r.un;omega
noncomputable def tNil:TA:=λ_ H Q=>Q [] H
noncomputable def aH (ta:TE) (tr:TA):TA:=λσ H Q=>ta σ H λx H1=>tr σ H1 λxs H2=>Q (x::xs) H2
section
variable {X:Cx} {e:Expr} {es:List Expr} {te:TE} {t:TA} {pos:Pos}
theorem nA:PA X [] tNil:=λ_ _ _ _ H Q I h=>Calls.spliced_nil ⟨[],H,I,.nil,h⟩
theorem dA (ha:PE X e te) (hr:PA X es t) (hs:starEach (e::es) X.env=(false,eval e X.env)::starEach es X.env:=by rfl):PA X (e::es) (aH te t):=by
 intro pos pins s σ H Q I h;rw[hs];show wpAny _ _ (spliced ((false,eval e X.env)::backTo pos (starEach es X.env))) _ _ s;refine Calls.spliced_cons (YA (ha pins s σ H _ I h) λu s1 ⟨x,H1,I1,r1,q1⟩=>?_);exact YA (hr pos pins s1 σ H1 _ I1 q1) λus s2 ⟨xs,H2,I2,r2,q2⟩=>⟨x::xs,H2,I2,.cons r1 r2,q2⟩
noncomputable def dL (t:TA):TE:=λσ H Q=>t σ H λxs H1=>xs.length<=sizeLine/\∀p,H1 p=none->Q (.ref p) (upd H1 p (.tup xs))
noncomputable def eL (t:TA):TE:=λσ H Q=>t σ H λxs H1=>xs.length<=sizeLine/\∀p,H1 p=none->Q (.ref p) (upd H1 p (.lst xs))
theorem VC {x1} (h:PA X es t):PE X (.Tuple es x1 pos) (dL t):=by
 intro pins s σ H Q I hq;refine wpAny_Tuple_spliced (YA (h pos pins s σ H _ I hq) λus s1 ⟨xs,H1,I1,r,z,q⟩=>⟨by rw[<-r.length];exact z,?_⟩);have hf:H1 s1.heap.objs.size=none:=I1.hok.fresh (Nat.le_refl _);refine⟨.ref s1.heap.objs.size,upd H1 s1.heap.objs.size (.tup xs),I1.laid (t':=s1.toks) (λb u e=>Heap.get?_push_of_some _ e) (Nat.le_refl _) ?_,rfl,q _ hf⟩;exact⟨z,us,r,⟨_,Heap.get?_push_size _ rfl,rfl,_,rfl⟩⟩
theorem UC (h:PA X es t):PE X (.List es pos) (eL t):=by
 intro pins s σ H Q I hq;refine wpAny_List_spliced (YA (h pos pins s σ H _ I hq) λus s1 ⟨xs,H1,I1,r,z,q⟩=>⟨by rw[<-r.length];exact z,?_⟩);have hf:H1 s1.heap.objs.size=none:=I1.hok.fresh (Nat.le_refl _);refine⟨.ref s1.heap.objs.size,upd H1 s1.heap.objs.size (.lst xs),I1.laid (t':=s1.toks) (λb u e=>Heap.get?_push_of_some _ e) (Nat.le_refl _) ?_,rfl,q _ hf⟩;exact⟨z,us,0,r,Heap.get?_push_size _ rfl⟩
end
noncomputable abbrev Sp:=List V->Hp->VK->XK->Prop
noncomputable abbrev CXT:=List Env->Hp->Shared->XK->Value->Shared->Prop
structure zE (P:Program) (w:World) (K:PySem.W.Frag) (mg:Str->Option Value) (base:Heap) (A:Around) (outer:List Env) (s:Shared) (H:Hp):Prop where
 frames:A.frames=some outer
 mod:Mod K mg base
 bs:∀b o,base.get? b=some o->s.heap.get? b=some o/\H b=none
 bsz:base.objs.size<=s.heap.objs.size
 funs:s.heap.FunFrames base outer
 frf:∀b∈QB outer,H b=none
 hok:cC P w H s.heap
 bare:AllBare s.gens
noncomputable def CE (outer:List Env) (P:Program) (w:World) (H:Hp) (s:Shared) (Q:VK) (u:Value) (s':Shared):Prop:=
 ∃v H',s'.os=s.os/\AllBare s'.gens/\Un (QB outer) [] H H' s.heap s'.heap/\cC P w H' s'.heap/\sA v u/\Q v H'
noncomputable def CR (CX:CXT) (outer:List Env) (P:Program) (w:World) (H:Hp) (s:Shared) (Q:VK) (E:XK) (r:Result) (s':Shared):Prop:=
 match r with
 |.ok (.ret u)=>CE outer P w H s Q u s'
 |.ok _=>False
 |.error e=>CX outer H s E e s'
structure zC (P:Program) (w:World) (K:PySem.W.Frag) (mg:Str->Option Value) (base:Heap) (CX:CXT) (k:Nat) (f:Addr) (fd:FuncData) (ps:List Str) (sp:Sp):Prop where
 len:∀vs H Q E,sp vs H Q E->vs.length=ps.length
 run:∀(A:Around) (outer:List Env) (s:Shared) (H:Hp) (args:Args) (us:List Value) (vs:List V) (Q:VK) (E:XK),rB k A->zE P w K mg base A outer s H->BindsTo s fd args (ps.zip us)->pA vs us->sp vs H Q E->
  codeAny (model P w) A (.call (.ref f) args) (CR CX outer P w H s Q E) s
theorem zC.mono {P:Program} {w:World} {K:PySem.W.Frag} {mg:Str->Option Value} {base:Heap} {CX:CXT} {j k:Nat} {f:Addr} {fd:FuncData} {ps:List Str} {sp:Sp} (F:zC P w K mg base CX j f fd ps sp) (h:j<=k):
 zC P w K mg base CX k f fd ps sp:=⟨F.len,λA outer s H args us vs Q E hr=>F.run A outer s H args us vs Q E (hr.mono h)⟩
theorem zE.make {P:Program} {w:World} {K:PySem.W.Frag} {mg:Str->Option Value} {base:Heap} {A:Around} {outer:List Env} {s:Shared} {H:Hp} (e:zE P w K mg base A outer s H) (C:Addr) (us:List Value) (kw:List (Str×Value)):
 zE P w K mg base (A.under (.builtin "type.__call__" ⟨.ref C::us,kw⟩)) outer s H:=⟨by first|exact e.frames|(simpa[Around.under,Code.envs,Code.isFrame,pushEnvs] using e.frames),e.mod,e.bs,e.bsz,e.funs,e.frf,e.hok,e.bare⟩
section
variable {X:Cx} {pins:List (Addr×Obj)} {σ:St} {H:Hp} {s s':Shared}
theorem jA.env0 (I:jA X pins σ H s):zE X.prog X.w X.K X.mg X.base X.A X.stack s H:=
 ⟨I.ok.frames,I.ok.mod,I.bs,Nat.le_trans I.ok.bsz I.sz,I.stack,I.stkFree,I.hok,I.bare⟩
theorem jA.after {Q:VK} {u:Value} (I:jA X pins σ H s) (h:CE X.stack X.prog X.w H s Q u s'):EP X pins σ Q u s':=by
 obtain⟨v,H',os,bare,un,hok,r,q⟩:=h;obtain⟨hh,g,d,t,os'⟩:=s';obtain rfl:os'=s.os:=os;exact⟨v,H',I.call (h':=hh) (g':=g) (d':=d) (t':=t) (ch:=[]) un hok bare (λb z=>absurd z (by simp)),r,q⟩
end
noncomputable def VB (K:PySem.W.Frag) (fd:FuncData) (ps:List Str) (ds:List Value):Prop:=
 ∀(s:Shared) (us:List Value),K.In s.heap->(us++ds).length=ps.length->BindsTo s fd ⟨us,[]⟩ (ps.zip (us++ds))
theorem VB.all {K:PySem.W.Frag} {fd:FuncData} {ps:List Str} (h:∀us:List Value,us.length=ps.length->bindArgs fd ⟨us,[]⟩=pure (ps.zip us)):VB K fd ps []:=λs us _ hl=>by
 rw[List.append_nil] at hl ⊢;exact .of_eq (h us hl)
section
variable {X:Cx} {CX:CXT} {k:Nat} {f C:Addr} {fd:FuncData} {ps:List Str} {sp:Sp} {dvs:List V} {ds:List Value} {E:XK} {x m:Str} {p pos apos:Pos} {e o:Expr} {es:List Expr} {ta:TE} {t:TA}
structure Mk (K:PySem.W.Frag) (C f:Addr):Prop where
 makes:PySem.W.makesIn K C=true
 init:PySem.W.findIn K (.ref C) "__init__"=some (some (.ref f))
 fn:PySem.W.isFn K (.ref f)=true
 kp:PySem.W.keepIn K (.ref C)=true
end
section
variable {X:Cx} {CX:CXT} {k:Nat} {f C:Addr} {fd:FuncData} {ps ks:List Str} {sp:Sp} {E:XK} {x m:Str} {p pos apos kpos:Pos} {e o:Expr} {es:List Expr} {kws:List Keyword} {te ta:TE} {t tk:TA} {nm:Option Str}
variable {g:List Value->List Value->List Value} {gV:List V->List V->List V}
end
structure fA (N P:List Str) (sc:Scope):Prop where
 kind:sc.kind=.function
 co:sc.isCoroutine=false
 gen:sc.isGenerator=false
 nd:N.Nodup
 pre:N.take P.length=P
 par:∀x∈P,sc.names.lookup x=some .local\/sc.names.lookup x=some .cell
 nofree:∀y∈sc.names,y.2≠.free
theorem iU {kindOf:Str->Option NameKind} {x:Str}:∀{binds:List (Str×Value)} {m:Str->Option Value},(∀v,(x,v)∉binds)->bindL kindOf binds m x=m x
 |[],_,_=>rfl
 |(n,v)::r,m,h=>by
  unfold bindL;rw[iU λw hw=>h w (List.mem_cons_of_mem _ hw)]
  split
  ·have:x≠n:=by rintro rfl;exact h v List.mem_cons_self
   simp[this]
  ·rfl
theorem jU {kindOf:Str->Option NameKind} {x:Str}:∀{binds:List (Str×Value)} {m:Str->Option Value},(∀v,(x,v)∉binds)->bindC kindOf binds m x=m x
 |[],_,_=>rfl
 |(n,v)::r,m,h=>by
  unfold bindC;rw[jU λw hw=>h w (List.mem_cons_of_mem _ hw)]
  split
  ·rfl
  ·have:x≠n:=by rintro rfl;exact h v List.mem_cons_self
   simp[this]
theorem kU {kindOf:Str->Option NameKind} {x:Str} {v:Value}:∀{P:List Str} {vs:List Value} {i:Nat} {m:Str->Option Value},P.Nodup->P[i]?=some x->vs[i]?=some v->kindOf x=some .local->
  bindL kindOf (P.zip vs) m x=some v
 |[],_,_,_,_,h,_,_=>by simp at h
 |_::_,[],_,_,_,_,h,_=>by simp at h
 |p::P,w::vs,0,m,nd,h1,h2,hk=>by
  simp at h1 h2;subst h1;subst h2;show bindL kindOf ((p,w)::P.zip vs) m p=_;unfold bindL;rw[iU λv hv=>(List.nodup_cons.mp nd).1 (List.of_mem_zip hv).1,if_pos hk];simp
 |p::P,w::vs,i+1,m,nd,h1,h2,hk=>by
  show bindL kindOf ((p,w)::P.zip vs) m x=_;unfold bindL;exact kU (i:=i) (List.nodup_cons.mp nd).2 (by simpa using h1) (by simpa using h2) hk
theorem lU {kindOf:Str->Option NameKind} {x:Str} {v:Value}:∀{P:List Str} {vs:List Value} {i:Nat} {m:Str->Option Value},P.Nodup->P[i]?=some x->vs[i]?=some v->kindOf x≠some .local->
  bindC kindOf (P.zip vs) m x=some v
 |[],_,_,_,_,h,_,_=>by simp at h
 |_::_,[],_,_,_,_,h,_=>by simp at h
 |p::P,w::vs,0,m,nd,h1,h2,hk=>by
  simp at h1 h2;subst h1;subst h2;show bindC kindOf ((p,w)::P.zip vs) m p=_;unfold bindC;rw[jU λv hv=>(List.nodup_cons.mp nd).1 (List.of_mem_zip hv).1,if_neg hk];simp
 |p::P,w::vs,i+1,m,nd,h1,h2,hk=>by
  show bindC kindOf ((p,w)::P.zip vs) m x=_;unfold bindC;exact lU (i:=i) (List.nodup_cons.mp nd).2 (by simpa using h1) (by simpa using h2) hk
noncomputable def nC (N:List Str) (vs:List V):St:=vs.map some++List.replicate (N.length - vs.length) none
noncomputable def RB (CX:CXT) (P:Program) (w:World) (K:PySem.W.Frag) (mg:Str->Option Value) (base:Heap) (N:List Str) (qual:Str) (scope:Scope) (f:Addr) (cd:Value) (A:Around) (outer:List Env) (s:Shared) (H:Hp) (E:XK):Cx where
 prog:=P
 w:=w
 K:=K
 mg:=mg
 base:=base
 A:=A.deeper (envOfC qual scope s.heap.objs.size f cd)
 N:=N
 s₀:=s
 H₀:=H
 env:=envOfC qual scope s.heap.objs.size f cd
 outer:=outer
 stack:=envOfC qual scope s.heap.objs.size f cd::outer
 ex:=[]
 calm:=true
 fn:=λ_=>true
 pn:=[]
 xe:=λe s'=>wpAny (model P w) (A.deeper (envOfC qual scope s.heap.objs.size f cd)) (leaving (envOfC qual scope s.heap.objs.size f cd) e) (λ_ s''=>CX outer H s E e s'') (λe' s''=>CX outer H s E e' s'') s'
theorem mU {sc:Scope} {n:Nat} {x:Str} (h:sc.names.lookup x=some .cell):∃c,(cellsFrom n sc.names []).lookup x=some c:=by
 have q:=PySem.W.cellsFrom_some sc.names n [] (.inl h);exact Option.isSome_iff_exists.mp q
theorem HX {CX:CXT} {P:Program} {w:World} {K:PySem.W.Frag} {mg:Str->Option Value} {base:Heap} {N ps:List Str} {qual:Str} {scope:Scope} {f:Addr} {cd:Value} {A:Around} {outer:List Env} {s s1:Shared} {H:Hp} {E:XK} {us:List Value} {vs:List V}
  (S:fA N ps scope) (hd:A.handled=none) (e0:zE P w K mg base A outer s H) (hl:vs.length=ps.length) (r:pA vs us)
  (x:InCallC s s.heap.objs.size (bindL (envOfC qual scope s.heap.objs.size f cd).kindOf (ps.zip us) λ_=>none) (cellsFrom (s.heap.objs.size+1) scope.names []) (bindC (envOfC qual scope s.heap.objs.size f cd).kindOf (ps.zip us) λ_=>none) s1):
  jA (RB CX P w K mg base N qual scope f cd A outer s H E) [] (nC N vs) H s1:=by
 have hpl:ps.length<=N.length:=by have:=congrArg List.length S.pre;rw[List.length_take] at this;omega
 obtain⟨h1,tk,rfl,hk⟩:=x.done;have noA:∀b:Addr,b∉(RB CX P w K mg base N qual scope f cd A outer s H E).ex:=λb z=>absurd (show b∈([]:List Addr) from z) (by simp);refine⟨⟨e0.mod,S.kind,rfl,rfl,Nat.le_refl _,λy z c h1 h2=>?_,λy hy=>?_,λy c _ h=>?_,λ_=>hd,Around.frames_deeper e0.frames,.inr ⟨rfl,rfl⟩,λb z=>absurd z (noA b),e0.bs,e0.bsz,λb _ _=>noA b,λb z=>absurd z (noA b),e0.funs,e0.frf⟩,
  rfl,e0.bare,Un.kept hk,⟨_,x.toInCall.ns,λi y v h1 h2 h3=>?_⟩,λy c h=>⟨_,x.cell y c h⟩,e0.hok.fresh (Nat.le_refl _),λy c h=>?_,λp hp=>absurd (show p∈([]:List (Addr×Obj)) from hp) (by simp),e0.hok.kept hk,?_⟩
 ·exact name_of_addr x.apart (PySem.mem_of_lookup h1) (PySem.mem_of_lookup h2)
 ·have hy:scope.names.lookup y=some .cell\/scope.names.lookup y=some .free:=hy;rcases hy with hy|hy
  ·exact mU hy
  ·exact absurd rfl (S.nofree _ (PySem.mem_of_lookup hy))
 ·exact Nat.le_of_lt (x.above y c (PySem.mem_of_lookup h))
 ·have hi:i < vs.length:=by
   unfold nC at h2;by_cases hi:i < vs.length
   ·exact hi
   ·rw[List.getElem?_append_right (by simpa using hi)] at h2;rw[List.getElem?_replicate] at h2
    split at h2<;>cases h2
  have ha:vs[i]?=some v:=by
   unfold nC at h2;rw[List.getElem?_append_left (by simpa using hi),List.getElem?_map] at h2;cases e:vs[i]? with
   |none=>rw[e] at h2;cases h2
   |some a=>rw[e] at h2;cases h2;rfl
  obtain⟨u,hu,rv⟩:=r.get ha;have hp:ps[i]?=some y:=by
   rw[<-S.pre,List.getElem?_take_of_lt ⋯];exact h1
  have ndP:ps.Nodup:=by rw[<-S.pre];exact S.nd.sublist (List.take_sublist _ _)
  refine⟨u,rv,?_⟩;rcases S.par y (List.mem_of_getElem? hp) with k|k
  ·exact .inl ⟨k,kU ndP hp hu k⟩
  ·obtain⟨c,e⟩:=mU (n:=s.heap.objs.size+1) k;refine .inr ⟨.inl k,c,e,?_⟩;have q:=x.cell y c e;rw[lU ndP hp hu (by show scope.names.lookup y≠_;rw[k];decide)] at q;exact q
 ·exact e0.hok.fresh (Nat.le_of_lt (x.above y c (PySem.mem_of_lookup h)))
 ·unfold nC;show _=N.length;rw[List.length_append,List.length_map,List.length_replicate];omega
theorem oO {CX:CXT} {P:Program} {w:World} {K:PySem.W.Frag} {mg:Str->Option Value} {base:Heap} {k:Nat} {f:Addr} {name qual:Str} {params:Arguments} {body:List Stmt} {scope:Scope} {dV kV doc pm cdv ct oc:Value} {an od:Option Addr}
  {osl:Array (Option Value)} {N ps:List Str} {sp:Sp} (lk:K.lookup f=some ⟨oc,od,.func (PySem.W.fnOf name qual params body scope dV kV doc pm an cdv ct),osl⟩) (hcd:PySem.W.codeIn K cdv qual=true) (S:fA N ps scope)
  (len:∀vs H Q E,sp vs H Q E->vs.length=ps.length)
  (hbody:∀(A:Around) (outer:List Env) (s:Shared) (H:Hp) (vs:List V) (Q:VK) (E:XK),rB k (A.deeper (envOfC qual scope s.heap.objs.size f cdv))->sp vs H Q E->
   ∃t,WD (RB CX P w K mg base N qual scope f cdv A outer s H E) body t/\t {nx:=λ_ H'=>Q .non H',rt:=Q} (nC N vs) H):
  zC P w K mg base CX (k+1) f (PySem.W.fnOf name qual params body scope dV kV doc pm an cdv ct) ps sp:=by
 refine⟨len,λA outer s H args us vs Q E hr e0 hb r hsp=>?_⟩;have hl:=len _ _ _ _ hsp;have KX:K.In s.heap:=e0.mod.kin.keeps λb o e=>(e0.bs b o e).1;have lim:s.heap.NoLimit:=e0.mod.nolimit.keeps λb o e=>(e0.bs b o e).1;have hkind:∀y∈ps.zip us,scope.names.lookup y.1=some .local\/(scope.names.lookup y.1=some .cell/\((cellsFrom (s.heap.objs.size+1) scope.names []).lookup y.1).isSome=true):=λ⟨n,v⟩ hy=>by
  rcases S.par n (List.of_mem_zip hy).1 with q|q
  ·exact .inl q
  ·exact .inr ⟨q,PySem.W.cellsFrom_some _ _ _ (.inl q)⟩
 refine codeAny_call_function hr.depth (KX _ _ lk) rfl S.co S.gen rfl (PySem.W.codeRec_of KX hcd) (hb _ _ _ _ ?_);refine wpAny_newFunctionEnv_cells S.kind hkind λenv he s1 x=>?_;subst he;refine⟨lim.keeps x.toInCall.keep,codeAny_func ?_⟩;obtain⟨t,ht,hq⟩:=hbody A outer s H vs Q E (hr.deeper _) hsp;have I:jA (RB CX P w K mg base N qual scope f cdv A outer s H E) [] (nC N vs) H s1:=HX S hr.hd e0 hl r x;refine wpAny_mono (ht [] s1 (nC N vs) H _ I hq) (λfl s' hs=>?_) λe s' hs=>hs;have fin:∀{σ':St} {H':Hp} {v:V} {u:Value},jA (RB CX P w K mg base N qual scope f cdv A outer s H E) [] σ' H' s'->sA v u->Q v H'->CE outer P w H s Q u s':=
  λ{σ' H' v u} J rv q=>⟨v,H',J.os,J.bare,J.base,J.hok,rv,q⟩
 cases fl with
 |ret u=>
  obtain⟨v,σ',H',J,rv,q⟩:=hs;exact fin J rv q
 |next=>
  obtain⟨σ',H',J,q⟩:=hs;exact fin (v:=V.non) (u:=Value.none) J rfl q
 |brk=>
  obtain⟨_,_,_,q⟩:=hs;exact False.elim q
 |cont=>
  obtain⟨_,_,_,q⟩:=hs;exact False.elim q
end L2
namespace L2
open PySem PySem.Spec PyProof.Rows
section
variable {X:Cx} {x:Str} {p pos:Pos} {e:Expr} {es:List Expr} {t:TA} {id T:String} {r:List V->Hp->VK->Prop}
noncomputable def pO (r:List V->Hp->VK->Prop) (t:TA):TE:=λσ H Q=>t σ H λvs H1=>r vs H1 Q
theorem DB (hc:lC X (.builtin id) r) (hg:Gl X x) (hm:X.mg x=none) (hv:bootBuiltins x=some (.builtin id)) (ha:PA X (e::es) t) (hn:x≠"__name__":=by decide) (hdb:(x == ("__debug__":Str))=false:=by decide)
  (he:starEach (e::es) X.env=(false,eval e X.env)::starEach es X.env:=by rfl) (hpl:(backTo pos (starEach es X.env)).any (·.1)=false:=by rfl):PE X (.Call (.Name x p) (e::es) [] pos) (pO r t):=by
 intro pins s σ H Q I h;refine wpAny_Call_Name_kw (GK I hg hm hv ?_ hn hdb);exact PyProof.Rows.callWith_builtin1 (YA (ha pos pins s σ H _ I h) λus s1 ⟨vs,H1,I1,r1,q1⟩=>hc pins s1 σ H1 vs us Q I1 r1 q1) he hpl
theorem cK (hc:lC X (.type T) r) (hg:Gl X x) (hm:X.mg x=none) (hv:bootBuiltins x=some (.type T)) (ha:PA X (e::es) t) (hn:x≠"__name__":=by decide) (hdb:(x == ("__debug__":Str))=false:=by decide)
  (he:starEach (e::es) X.env=(false,eval e X.env)::starEach es X.env:=by rfl) (hpl:(backTo pos (starEach es X.env)).any (·.1)=false:=by rfl):PE X (.Call (.Name x p) (e::es) [] pos) (pO r t):=by
 intro pins s σ H Q I h;refine wpAny_Call_Name_kw (GK I hg hm hv ?_ hn hdb);exact PyProof.Rows.callWith_type1 (YA (ha pos pins s σ H _ I h) λus s1 ⟨vs,H1,I1,r1,q1⟩=>hc pins s1 σ H1 vs us Q I1 r1 q1) he hpl
end
end L2
namespace HT
open PySem PyProof.Rows
section
open PySem.SeqAt
open PySem.AutoSeq1 (wpAny_loadPart')
open PySem.MeetsSeq PySem.MeetsSeq2 PySem.MeetsSeq3
end
section
variable {prog:Program} {w:World} {A:Around} {E:Value->Shared->Prop} {s:Shared}
noncomputable def qO (n d:Nat):Option Int->Nat
 |none=>d
 |some v=>if v < 0 then (v+(n:Int)).toNat else min v.toNat n
end
end HT
namespace L2
open PySem PySem.Spec PyProof.Rows
noncomputable abbrev TO:=St->Hp->(Option Int->Hp->Prop)->Prop
section
variable {X:Cx} {e:Expr} {te:TE} {lo hi:Option Expr} {tl th:TO} {pos p2:Pos}
noncomputable def SlR (X:Cx) (r:V->Option Int->Option Int->Hp->VK->Prop):Prop:=
 ∀(pins:List (Addr×Obj)) (s:Shared) (σ:St) (H:Hp) (x:V) (v vl vu:Value) (lo hi:Option Int) (sl:Addr) (Q:VK),jA X pins σ H s->sA x v->s.heap.IsSliceOf sl vl vu .none->IsPart vl lo->IsPart vu hi->r x lo hi H Q->
  ∃T id,typeLookup (.type T) "__getitem__"=pure (some (.builtin id))/\s.TypeIs v T/\wpAny (model X.prog X.w) X.A (getItem v (.ref sl)) (EP X pins σ Q) X.xe s
noncomputable def rO (xs:List V) (lo hi:Option Int):List V:=(xs.drop (HT.qO xs.length 0 lo)).take (HT.qO xs.length xs.length hi - HT.qO xs.length 0 lo)
end
end L2
namespace L2
open PySem PySem.Spec PyProof.Rows
noncomputable def AF (n:Nat) (i:Int):Option Nat:=if 0<=i then (if i < n then some i.toNat else none) else if -(n:Int)<=i then some (i+n).toNat else none
noncomputable def SE {α:Type} (xs:List α) (i:Int):Option α:=(AF xs.length i).bind λj=>xs[j]?
theorem nU {n:Nat} {i:Int} {j:Nat} (h:AF n i=some j):seqIndex? i n=some j/\j < n/\ -(n:Int)<=i/\i < n:=by
 unfold AF at h;by_cases h0:0<=i
 ·rw[if_pos h0] at h;by_cases h1:i < n
  ·rw[if_pos h1] at h;have e:i.toNat=j:=Option.some.inj h;exact⟨by rw[seqIndex_of h0 h1,e],⋯,⋯,h1⟩
  ·rw[if_neg h1] at h;cases h
 ·rw[if_neg h0] at h;by_cases h1: -(n:Int)<=i
  ·rw[if_pos h1] at h;have e:(i+n).toNat=j:=Option.some.inj h;exact⟨by rw[seqIndex_neg ⋯ h1,e],⋯,h1,⋯⟩
  ·rw[if_neg h1] at h;cases h
theorem oU {α:Type} {xs:List α} {i:Int} {v:α} (h:SE xs i=some v):∃j,seqIndex? i xs.length=some j/\xs[j]?=some v/\j < xs.length/\ -(xs.length:Int)<=i/\i < xs.length:=by
 unfold SE at h;cases e:AF xs.length i with
 |none=>rw[e] at h;cases h
 |some j=>
  rw[e] at h;obtain⟨h1,h2,h3,h4⟩:=nU e;exact⟨j,h1,h,h2,h3,h4⟩
theorem xA {α:Type} {xs:List α} {j:Nat} {v:α} (h:xs[j]?=some v):SE xs (j:Int)=some v:=by
 have hj:j < xs.length:=(List.getElem?_eq_some_iff.mp h).1;have e:AF xs.length (j:Int)=some j:=by
  unfold AF;rw[if_pos ⋯,if_pos ⋯];simp
 unfold SE;rw[e];exact h
noncomputable def wG (b:Expr):Prop:=∀o i,subscripted b false o i=operate [o,i] (getItem o i)
noncomputable def mG (X:Cx) (r:R2):Prop:=
 ∀(value slice:Expr) (pins:List (Addr×Obj)) (s:Shared) (σ:St) (H:Hp) (x y:V) (v u:Value) (Q:VK),jA X pins σ H s->sA x v->sA y u->r x y H Q->
  subscripted slice false v u=operate [v,u] (getItem v u)->wpAny (model X.prog X.w) X.A (subscriptTail value slice v u) (EP X pins σ Q) X.xe s
noncomputable def IX (X:Cx) (id:String) (r:V->List V->Hp->VK->Prop):Prop:=
 ∀(pins:List (Addr×Obj)) (s:Shared) (σ:St) (H:Hp) (x:V) (xs:List V) (v:Value) (us:List Value) (Q:VK),jA X pins σ H s->sA x v->pA xs us->r x xs H Q->
  wpAny (model X.prog X.w) X.A (call (.builtin id) (v::us)) (EP X pins σ Q) X.xe s
section
variable {X:Cx} {a b:Expr} {ta tb:TE} {pos:Pos}
theorem mG.or {r r':R2} (h:mG X r) (h':mG X r'):mG X (λx y H Q=>r x y H Q\/r' x y H Q):=by
 intro value slice pins s σ H x y v u Q I rx ry q hs;rcases q with q|q
 ·exact h value slice pins s σ H x y v u Q I rx ry q hs
 ·exact h' value slice pins s σ H x y v u Q I rx ry q hs
theorem yA {r:R2} (hr:mG X r) (ha:PE X a ta) (hb:PE X b tb) (hs:wG b):PE X (.Subscript a b pos) (pI r ta tb):=by
 intro pins s σ H Q I h;exact Subscript_ (qI ha hb I h λv u s2 x y H2 I2 rx ry q=>hr a b pins s2 σ H2 x y v u Q I2 rx ry q (hs _ _))
noncomputable def xG (K:PySem.W.Frag):R2:=λx y H Q=>∃p xs i v,x=.ref p/\y=.int i/\kA K H p xs/\SE xs i=some v/\Q v H
noncomputable def aF (K:PySem.W.Frag):R2:=λx y H Q=>∃p xs i v,x=.ref p/\y=.int i/\cB K H p xs/\SE xs i=some v/\Q v H
theorem SA:mG X (xG X.K):=by
 intro value slice pins s σ H x y v u Q I rx ry h hs;obtain⟨p,xs,i,z,rfl,rfl,hq,he,q⟩:=h;cases rx;obtain⟨t,rfl⟩:=ry;obtain⟨its,r,pl,hz⟩:=I.list hq;obtain⟨j,h1,h2,h3,h4,h5⟩:=oU he;obtain⟨w,ew,rw'⟩:=r.get h2;have hl:=r.length;have hn:=ND;have fin:EP X pins σ Q w s:=⟨z,H,I,rw',q⟩
 by_cases h0:0<=i
 ·have hj:i.toNat=j:=by
   rw[seqIndex_of h0 h5] at h1;exact Option.some.inj h1
  exact item_listR pl.isList h0 ⋯ (by rw[hj];simpa using ew) fin hs
 ·have hj:(i+(its.toArray.size:Int)).toNat=j:=by
   rw[seqIndex_neg ⋯ h4] at h1;rw[List.size_toArray,<-hl];exact Option.some.inj h1
  exact subscriptTail_builtinR (x:=w) pl.isList.typeIs slot_list_getitem.lookup
   (wpAny_getItem_list_neg (Q:=λr s'=>r=w/\EP X pins σ Q r s') pl.isList ⋯ (by rw[List.size_toArray]<;>omega) ⋯ (by rw[hj];simpa using ew) ⟨rfl,fin⟩) hs
theorem oC:mG X (aF X.K):=by
 intro value slice pins s σ H x y v u Q I rx ry h hs;obtain⟨p,xs,i,z,rfl,rfl,hq,he,q⟩:=h;cases rx;obtain⟨t,rfl⟩:=ry;obtain⟨its,r,pl,hz⟩:=I.tuple hq;obtain⟨j,h1,h2,h3,h4,h5⟩:=oU he;obtain⟨w,ew,rw'⟩:=r.get h2;have hl:=r.length;have hn:=ND;have fin:EP X pins σ Q w s:=⟨z,H,I,rw',q⟩
 exact subscriptTail_builtinR (x:=w) pl.typeIs slot_tuple_getitem.lookup
  (getItem_tuple (j:=j) (Q:=λr s'=>r=w/\EP X pins σ Q r s') pl ⋯ ⋯ (by rw[List.size_toArray,<-hl];exact h1) (by simpa using ew) ⟨rfl,fin⟩) hs
theorem JX (its:List Value) (n j:Nat) (u:Value):Obj.mapSeq (·.setIfInBounds j u) {cls:=.type "list",data:=.seq its.toArray n}={cls:=.type "list",data:=.seq (its.set j u).toArray n}:=by
 simp[Obj.mapSeq]
theorem jA.lst {pins:List (Addr×Obj)} {σ:St} {H:Hp} {s:Shared} {p:Addr} {xs:List V} (I:jA X pins σ H s) (h:H p=some (.lst xs)):
  ∃(its:List Value) (n:Nat),pA xs its/\s.heap.get? p=some {cls:=.type "list",data:=.seq its.toArray n}/\xs.length<=sizeLine:=by
 obtain⟨z,its,n,r,e⟩:=I.hok p _ h;exact⟨its,n,r,e,z⟩
theorem jA.lstUpd {pins:List (Addr×Obj)} {σ:St} {H:Hp} {s:Shared} {p:Addr} {xs ys:List V} {its its':List Value} {n n':Nat} {f:Obj->Obj} (I:jA X pins σ H s) (h:H p=some (.lst xs))
  (ho:s.heap.get? p=some {cls:=.type "list",data:=.seq its.toArray n}) (hf:f {cls:=.type "list",data:=.seq its.toArray n}={cls:=.type "list",data:=.seq its'.toArray n'}) (r:pA ys its') (hz:ys.length<=sizeLine) (t:Nat):
  jA X pins σ (upd H p (.lst ys)) {s with heap:=s.heap.update p f,toks:=t}:=by
 have e:(s.heap.update p f).get? p=some {cls:=.type "list",data:=.seq its'.toArray n'}:=by
  rw[Heap.get?_update_self f ho (by rw[hf]<;>rfl),hf]
 refine I.write (x:=p) (e:=p) (by rw[h];trivial) (.inl rfl) (λb u hb q=>(Heap.get?_update_other _ _ (Ne.symm hb)).trans q) ⟨_,e⟩ ?_;exact⟨hz,its',n',r,e⟩
noncomputable def rSetL:V->V->V->Hp->(Hp->Prop)->Prop:=λo i v H Q=>∃p xs k j,o=.ref p/\i=.int k/\H p=some (.lst xs)/\AF xs.length k=some j/\Q (upd H p (.lst (xs.set j v)))
theorem uD:PK X rSetL:=by
 intro pins s σ H o i v ov iv u Q I ro ri rv h;obtain⟨p,xs,k,j,rfl,rfl,hp,hj,q⟩:=h;cases ro;obtain⟨t,rfl⟩:=ri;obtain⟨its,n,r,ho,hz⟩:=I.lst hp;obtain⟨h1,h2,h3,h4⟩:=nU hj;have hl:=r.length;have hn:=ND;have I':jA X pins σ (upd H p (.lst (xs.set j v))) {s with heap:=s.heap.update p (Obj.mapSeq (·.setIfInBounds j u))}:=
  I.lstUpd hp ho (JX its n j u) (r.set rv j) (by rw[List.length_set];exact hz) s.toks
 by_cases h0:0<=k
 ·have hk:k.toNat=j:=by
   rw[seqIndex_of h0 h4] at h1;exact Option.some.inj h1
  exact PySem.W.ki_setAt ho h0 ⋯ (by rw[List.size_toArray,<-hl];exact h4) (by rw[hk];exact⟨_,I',q⟩)
 ·have hk:(k+(its.toArray.size:Int)).toNat=j:=by
   rw[seqIndex_neg ⋯ h3] at h1;rw[List.size_toArray,<-hl];exact Option.some.inj h1
  exact PySem.W.ki_setBack ho ⋯ (by rw[List.size_toArray,<-hl];exact h3) ⋯ (by rw[hk];exact⟨_,I',q⟩)
noncomputable def rSlL (K:PySem.W.Frag):V->Option Int->Option Int->Hp->VK->Prop:=λx lo hi H Q=>∃a xs,x=.ref a/\kA K H a xs/\∀p,H p=none->Q (.ref p) (upd H p (.lst (rO xs lo hi)))
noncomputable def JB:V->Bool
 |.non=>true
 |.bl _=>true
 |.int _=>true
 |.str _=>true
 |_=>false
noncomputable def UE:V->V->Bool
 |.non,.non=>true
 |.bl a,.bl b=>a == b
 |.bl a,.int b=>(if a then 1 else 0) == b
 |.int a,.bl b=>a == (if b then 1 else 0)
 |.int a,.int b=>a == b
 |.str a,.str b=>a == b
 |_,_=>false
theorem pU {A:Around} {s:Shared} {y x:V} {u v:Value} (ry:sA y u) (rx:sA x v) (fy:JB y=true) (fx:JB x=true):SeqAt.EqAt A s u v (UE y x):=by
 cases y with
 |non=>
  cases ry;cases x with
  |non=>cases rx;exact SeqAt.EqAt.same _
  |bl b=>cases rx;exact SeqAt.EqAt.none_bool b
  |int b=>obtain⟨t,rfl⟩:=rx;exact SeqAt.EqAt.none_int b t
  |str b=>obtain⟨t,rfl⟩:=rx;exact SeqAt.EqAt.none_str b t
  |_=>exact absurd (show false=true from fx) Bool.false_ne_true
 |bl a=>
  cases ry;cases x with
  |non=>cases rx;exact SeqAt.EqAt.bool_none a
  |bl b=>cases rx;exact SeqAt.EqAt.bool_bool a b
  |int b=>obtain⟨t,rfl⟩:=rx;exact SeqAt.EqAt.bool_int a b t
  |str b=>obtain⟨t,rfl⟩:=rx;exact SeqAt.EqAt.bool_str a b t
  |_=>exact absurd (show false=true from fx) Bool.false_ne_true
 |int a=>
  obtain⟨t',rfl⟩:=ry;cases x with
  |non=>cases rx;exact SeqAt.EqAt.int_none a t'
  |bl b=>cases rx;exact SeqAt.EqAt.int_bool a t' b
  |int b=>obtain⟨t,rfl⟩:=rx;exact SeqAt.EqAt.int_int a t' b t
  |str b=>obtain⟨t,rfl⟩:=rx;exact SeqAt.EqAt.int_str a t' b t
  |_=>exact absurd (show false=true from fx) Bool.false_ne_true
 |str a=>
  obtain⟨t',rfl⟩:=ry;cases x with
  |non=>cases rx;exact SeqAt.EqAt.str_none a t'
  |bl b=>cases rx;exact SeqAt.EqAt.str_bool a t' b
  |int b=>obtain⟨t,rfl⟩:=rx;exact SeqAt.EqAt.str_int a t' b t
  |str b=>obtain⟨t,rfl⟩:=rx;exact SeqAt.EqAt.str_str a t' b t
  |_=>exact absurd (show false=true from fx) Bool.false_ne_true
 |_=>exact absurd (show false=true from fy) Bool.false_ne_true
noncomputable def yG (x:V) (u:Value):Bool:=match u with
 |.none=>UE .non x
 |.bool b=>UE (.bl b) x
 |.int i _=>UE (.int i) x
 |.str z _=>UE (.str z) x
 |_=>false
theorem qU {x y:V} {u:Value} (r:sA y u) (f:JB y=true):yG x u=UE y x:=by
 cases y with
 |non=>cases r;rfl
 |bl b=>cases r;rfl
 |int i=>obtain⟨t,rfl⟩:=r;rfl
 |str z=>obtain⟨t,rfl⟩:=r;rfl
 |_=>exact absurd (show false=true from f) Bool.false_ne_true
theorem sO {x:V}:∀{xs:List V} {us:List Value},pA xs us->xs.all JB=true->us.any (yG x)=xs.any λy=>UE y x
 |_,_,.nil,_=>rfl
 |y::xs,u::us,.cons r t,f=>by
  rw[List.all_cons,Bool.and_eq_true] at f;rw[List.any_cons,List.any_cons,qU r f.1,sO t f.2]
theorem uO {A:Around} {s:Shared} {x:V} {v:Value} (rx:sA x v) (fx:JB x=true):∀{xs:List V} {us:List Value},pA xs us->xs.all JB=true->∀u∈us,SeqAt.EqAt A s u v (yG x u)
 |_,_,.nil,_=>λu hu=>by cases hu
 |y::xs,u::us,.cons r t,f=>λu' hu=>by
  rw[List.all_cons,Bool.and_eq_true] at f;rcases List.mem_cons.mp hu with rfl|hu
  ·rw[qU r f.1];exact pU r rx f.1 fx
  ·exact uO rx fx t f.2 u' hu
noncomputable def RM (x:V) (xs:List V):Bool:=xs.any λy=>UE y x
noncomputable def rU (K:PySem.W.Frag) (neg:Bool):R2:=λx y H Q=>∃p xs,y=.ref p/\(kA K H p xs\/cB K H p xs)/\JB x=true/\xs.all JB=true/\Q (.bl (if neg then !RM x xs else RM x xs)) H
theorem LX:OC X (compareOp .In) (rU X.K false):=by
 intro pins s σ H x y v u Q I rx ry h;obtain⟨p,xs,rfl,hq,fx,fs,q⟩:=h;cases ry;rcases hq with hq|hq
 ·obtain⟨its,r,pl,hz⟩:=I.list hq;refine SeqAt.in_listAt (yG x) pl.isList (λw hw=>uO rx fx r fs w (by simpa using hw)) ⟨.bl _,H,I,rfl,?_⟩;rw[show its.toArray.any (yG x)=its.any (yG x) by simp,sO r fs];exact q
 ·obtain⟨its,r,pl,hz⟩:=I.tuple hq;refine SeqAt.in_tupleAt (yG x) pl (λw hw=>uO rx fx r fs w (by simpa using hw)) ⟨.bl _,H,I,rfl,?_⟩;rw[show its.toArray.any (yG x)=its.any (yG x) by simp,sO r fs];exact q
theorem fL:lC X (.type "list") (λxs H Q=>∃p ys,xs=[.ref p]/\(kA X.K H p ys\/cB X.K H p ys)/\∀l,H l=none->Q (.ref l) (upd H l (.lst ys))):=by
 intro pins s σ H xs us Q I r h;obtain⟨p,ys,rfl,hq,q⟩:=h;obtain⟨u,rfl,rx⟩:=AD r;cases rx;have fin:∀(its:List Value),pA ys its->ys.length<=sizeLine->∀(h':Heap) (c':Nat),(∀b o',s.heap.get? b=some o'->h'.get? b=some o')->
   h'.get? s.heap.objs.size=some {cls:=.type "list",dict:=none,data:=.seq its.toArray c',slots:= #[]}->EP X pins σ Q (.ref s.heap.objs.size) {s with heap:=h'}:=λits r' hz h' c' kp e=>
  ⟨.ref s.heap.objs.size,_,I.laid (t':=s.toks) kp (Nat.le_refl _) (show CA X.prog X.w _ h' _ (.lst ys) from ⟨hz,its,c',r',e⟩),rfl,q _ (I.hok.fresh (Nat.le_refl _))⟩
 rcases hq with hq|hq
 ·obtain⟨its,r',pl,hz⟩:=I.list hq;have hlen:=r'.length;obtain⟨o,ho,hc,n,hd⟩:=pl.isList;exact call_list_seq p (.inl rfl) ho hc hd (λh' c' kp e=>fin its r' hz h' c' kp e) (by simp only[List.size_toArray]<;>omega)
 ·obtain⟨its,r',pl,hz⟩:=I.tuple hq;have hlen:=r'.length;obtain⟨o,ho,hc,n,hd⟩:=pl;exact call_list_seq p (.inr rfl) ho hc hd (λh' c' kp e=>fin its r' hz h' c' kp e) (by simp only[List.size_toArray]<;>omega)
theorem MX:lC X (.type "tuple") (λxs H Q=>∃p ys,xs=[.ref p]/\((kA X.K H p ys/\∀l,H l=none->Q (.ref l) (upd H l (.tup ys)))\/(cB X.K H p ys/\Q (.ref p) H))):=by
 intro pins s σ H xs us Q I r h;obtain⟨p,ys,rfl,h⟩:=h;obtain⟨u,rfl,rx⟩:=AD r;cases rx;rcases h with ⟨hq,q⟩|⟨hq,q⟩
 ·obtain⟨its,r',pl,hz⟩:=I.list hq;have hlen:=r'.length;refine call_tuple_list pl.isList (λh' kp=>?_) (by simp only[List.size_toArray]<;>omega);have I1:jA X pins σ H {s with heap:=h'}:=I.kept (t':=s.toks) kp;have I2:jA X pins σ (upd H h'.objs.size (.tup ys)) {s with heap:=h'.push {cls:=.type "tuple",data:=.seq its.toArray}}:=
   I1.laid (t':=s.toks) (λb o e=>Heap.get?_push_of_some _ e) (Nat.le_refl _) (show CA X.prog X.w _ _ _ (.tup ys) from ⟨hz,its,r',IsTup.new _ _⟩)
  exact⟨.ref h'.objs.size,_,I2,rfl,q _ (I1.hok.fresh (Nat.le_refl _))⟩
 ·obtain⟨its,r',pl,hz⟩:=I.tuple hq;exact call_tuple_same pl ⟨.ref p,H,I,rfl,q⟩
noncomputable def sU (K:PySem.W.Frag) (T:String) (x:V) (H:Hp):Prop:=match x with
 |.str _=>T="str"
 |.int _=>T="int"
 |.ref p=>(T="list"/\∃xs,kA K H p xs)\/(T="tuple"/\∃o,K.lookup p=some o/\o.cls=.type "tuple"/\o.dict=none)\/
  (T="dict"/\((∃kvs,H p=some (.dK kvs))\/∃kvs,H p=some (.dT kvs)))\/(T="set"/\∃S n,H p=some (.set S n))
 |_=>False
theorem vI {pins:List (Addr×Obj)} {σ:St} {H:Hp} {s:Shared} {T:String} {x:V} {v:Value} (I:jA X pins σ H s) (r:sA x v) (ty:sU X.K T x H):
  s.TypeIs v T/\∀a,v=.ref a->∃ob,s.heap.get? a=some ob/\ob.dict=none:=by
 cases x with
 |str z=>
  obtain⟨t,rfl⟩:=r;cases (show T="str" from ty);exact⟨typeIs_str s z t,λ_ e=>nomatch e⟩
 |int i=>
  obtain⟨t,rfl⟩:=r;cases (show T="int" from ty);exact⟨typeIs_int s i t,λ_ e=>nomatch e⟩
 |ref p=>
  cases r;rcases ty with ⟨rfl,xs,hq⟩|⟨rfl,o,hk,hc,hd⟩|⟨rfl,hk⟩|⟨rfl,S,n,hk⟩
  ·obtain⟨its,_,pl,_⟩:=I.list hq;refine⟨pl.isList.typeIs,λa e=>?_⟩;cases e;obtain⟨o,n,e,c,hd,_⟩:=pl;exact⟨o,e,hd⟩
  ·refine⟨⟨o,I.kIn p o hk,hc⟩,λa e=>?_⟩;cases e;exact⟨o,I.kIn _ o hk,hd⟩
  ·have z:∃o,s.heap.get? p=some o/\o.ExactDict:=by
    rcases hk with ⟨kvs,hk⟩|⟨kvs,hk⟩
    ·obtain⟨_,_,_,_,o,_,_,e,ex,_⟩:=I.hok p _ hk;exact⟨o,e,ex⟩
    ·obtain⟨_,_,_,_,o,_,_,e,ex,_⟩:=I.hok p _ hk;exact⟨o,e,ex⟩
   obtain⟨o,e,ex⟩:=z;refine⟨⟨o,e,ex.1⟩,λa e2=>?_⟩;cases e2;exact⟨o,e,ex.2.1⟩
  ·obtain⟨o,_,_,_,e,ex,_⟩:=I.hok p _ hk;refine⟨⟨o,e,ex.1⟩,λa e2=>?_⟩;cases e2;exact⟨o,e,ex.2.1⟩
 |_=>exact False.elim ty
noncomputable def tU (K:PySem.W.Frag) (T:String) (r:V->List V->Hp->VK->Prop) (to:TE) (t:TA):TE:=λσ H Q=>to σ H λx H1=>sU K T x H1/\t σ H1 λxs H2=>r x xs H2 Q
variable {o e:Expr} {es:List Expr} {to:TE} {t:TA} {name:Str} {apos cpos:Pos} {T id:String} {r:V->List V->Hp->VK->Prop}
theorem BF (pa:PlainAttrs T) (slot:Slot T name id) (hty:typeOf (.builtin id)=pure (.type "method_descriptor")) (hm:IX X id r) (ho:PE X o to) (ha:PA X (e::es) t)
  (hbase:attributeBase o name X.env (eval o X.env)=eval o X.env:=by rfl)
  (hfew:((backTo cpos (starEach (e::es) X.env)).all (λx=> !x.1)&&(backToKw cpos (keywordEach [] X.env)).all (λx=>x.1.isSome)
   &&decide ((e::es).length+([]:List Keyword).length+(if ([]:List Keyword).isEmpty then 0 else 1) < 30))=true:=by rfl)
  (hline:(apos.endLine == cpos.line)=true:=by rfl) (hs:starEach (e::es) X.env=(false,eval e X.env)::starEach es X.env:=by rfl) (hplain:(backTo cpos (starEach es X.env)).any (·.1)=false:=by rfl):
  PE X (.Call (.Attribute o name apos) (e::es) [] cpos) (tU X.K T r to t):=by
 intro pins s σ H Q I h;refine wpAny_Call_method_late hbase hfew hline rfl (YA (ho pins s σ H _ I h) λv s1 ⟨x,H1,I1,r1,ty,q1⟩=>?_);obtain⟨h1,h2⟩:=vI I1 r1 ty;refine⟨T,id,pa,slot,hty,h1,h2,?_⟩;have hA:=ha cpos pins s1 σ H1 _ I1 q1;rw[hs] at hA ⊢;refine Calls.callWith_builtin (by show (false || (backTo cpos (starEach es X.env)).any (·.1))=false;rw[hplain]<;>rfl) (Calls.evalArgs_plain ?_);exact YA hA λus s2 ⟨vs,H2,I2,r2,q2⟩=>hm pins s2 σ H2 x vs v us Q I2 r1 r2 q2
end
end L2
namespace L2
open PySem PySem.Spec PyProof.Rows
noncomputable def uU (X:Cx) (id:String) (r:V->List V->Hp->VK->Prop):Prop:=
 ∀(pins:List (Addr×Obj)) (s:Shared) (σ:St) (H:Hp) (x:V) (xs:List V) (v:Value) (us:List Value) (Q:VK),jA X pins σ H s->sA x v->pA xs us->r x xs H Q->
  wpAny (model X.prog X.w) X.A (call (.builtin id) (v::us)) (EP X pins σ Q) X.xe s
theorem pA.one:∀{x:V} {us:List Value},pA [x] us->∃u,us=[u]/\sA x u:=by
 intro x us h;cases h with
 |cons r h=>cases h;exact⟨_,rfl,r⟩
theorem pA.two:∀{x y:V} {us:List Value},pA [x,y] us->∃u v,us=[u,v]/\sA x u/\sA y v:=by
 intro x y us h;cases h with
 |cons r h=>
  cases h with
  |cons q h=>cases h;exact⟨_,_,rfl,r,q⟩
theorem pA.zero:∀{us:List Value},pA [] us->us=[]
 |_,.nil=>rfl
theorem pA.rep {xs:List V} {us:List Value} (h:pA xs us):∀k:Nat,pA (List.replicate k xs).flatten (List.replicate k us).flatten
 |0=>.nil
 |k+1=>by
  rw[List.replicate_succ,List.replicate_succ,List.flatten_cons,List.flatten_cons];exact pA.append h (pA.rep h k)
theorem vU (its:List Value):∀(k:Nat) (acc:List Value),
  List.foldl (λx1 x2=>x1++x2) acc.toArray (List.replicate k its.toArray)=(acc++(List.replicate k its).flatten).toArray
 |0,acc=>by simp
 |k+1,acc=>by
  have e:acc.toArray++its.toArray=(acc++its).toArray:=by simp
  have e2:(acc++its)++(List.replicate k its).flatten=acc++(List.replicate (k+1) its).flatten:=by
   rw[List.replicate_succ,List.flatten_cons,List.append_assoc]
  rw[<-e2,<-vU its k (acc++its),<-e,List.replicate_succ,List.foldl_cons]
section
variable {X:Cx} {pins:List (Addr×Obj)} {σ:St} {H:Hp} {s:Shared} {l b:Addr} {xs ys zs:List V}
theorem jA.lset {its its':List Value} {n:Nat} {f:Array Value->Array Value} {t':Nat} (I:jA X pins σ H s) (hH:H l=some (.lst xs))
  (e:s.heap.get? l=some {cls:=.type "list",data:=.seq its.toArray n}) (hf:f its.toArray=its'.toArray) (hv:pA ys its') (hz:ys.length<=sizeLine):
  jA X pins σ (upd H l (.lst ys)) {s with heap:=s.heap.update l (Obj.mapSeq f),toks:=t'}:=by
 have q:=PySem.IsL.update e f;rw[hf] at q;refine I.write (x:=l) (e:=l) (by rw[hH];exact trivial) (.inl rfl) (λb' u hb hu=>(Heap.get?_update_other s.heap (Obj.mapSeq f) (Ne.symm hb)).trans hu) ⟨_,q⟩ ?_;exact⟨hz,its',_,hv,q⟩
theorem jA.lnew {its:List Value} {t':Nat} (I:jA X pins σ H s) (hv:pA ys its) (hz:ys.length<=sizeLine):
  jA X pins σ (upd H s.heap.objs.size (.lst ys)) {s with heap:=s.heap.push {cls:=.type "list",data:=.seq its.toArray},toks:=t'}:=
 I.laid (λ_ _ q=>Heap.get?_push_of_some _ q) (Nat.le_refl _) ⟨hz,its,0,hv,Heap.get?_push_size _ rfl⟩
theorem jA.fresh (I:jA X pins σ H s):H s.heap.objs.size=none:=I.hok.fresh (Nat.le_refl _)
theorem jA.lstM (I:jA X pins σ H s) (hH:H l=some (.lst xs)):xs.length<=sizeLine/\∃(its:List Value) (n:Nat),pA xs its/\xs.length=its.length/\s.heap.get? l=some {cls:=.type "list",data:=.seq its.toArray n}:=by
 obtain⟨z,its,n,r,e⟩:=I.hok l _ hH;exact⟨z,its,n,r,r.length,e⟩
theorem bE {n:Nat} (h:n<=sizeLine):Builtin.List.listTooLong n=false:=by
 unfold Builtin.List.listTooLong;exact decide_eq_false ⋯
end
section
variable {X:Cx}
noncomputable def rAppend:V->List V->Hp->VK->Prop:=λx vs H Q=>∃l xs y,x=.ref l/\vs=[y]/\H l=some (.lst xs)/\xs.length < sizeLine/\Q .non (upd H l (.lst (xs++[y])))
theorem CF:uU X "list.append" rAppend:=by
 intro pins s σ H x vs v us Q I rx rv h;obtain⟨l,xs,y,rfl,rfl,hH,hz,q⟩:=h;cases rx;obtain⟨u,rfl,ru⟩:=rv.one;obtain⟨z,its,n,r,hl,e⟩:=I.lstM hH;refine call_meets F.slot_list_append ⟨_,e,rfl⟩ F.entry_list_append (F.args_list_append_2 _ _) (PySem.list_append l its.toArray n u (by rw[List.size_toArray];omega)) ⟨e,?_⟩;refine⟨.non,_,I.lset (its':=its++[u]) hH e (by simp) (r.append (.cons ru .nil)) ?_,rfl,q⟩;rw[List.length_append,List.length_singleton];omega
noncomputable def rExtend:V->List V->Hp->VK->Prop:=λx vs H Q=>∃l b xs zs,x=.ref l/\vs=[.ref b]/\H l=some (.lst xs)/\H b=some (.lst zs)/\xs.length+zs.length<=sizeLine/\Q .non (upd H l (.lst (xs++zs)))
theorem NX:uU X "list.extend" rExtend:=by
 intro pins s σ H x vs v us Q I rx rv h;obtain⟨l,b,xs,zs,rfl,rfl,hH,hB,hz,q⟩:=h;cases rx;obtain⟨u,rfl,ru⟩:=rv.one;cases ru;obtain⟨z,its,n,r,hl,e⟩:=I.lstM hH;obtain⟨z2,its2,n2,r2,hl2,e2⟩:=I.lstM hB;have hsz:its.toArray.size+its2.toArray.size<=sizeLine:=by rw[List.size_toArray,List.size_toArray];omega
 have hlong:¬(!its.toArray.isEmpty&&Builtin.List.listTooLong (its.toArray.size+its2.toArray.size))=true:=by
  rw[bE hsz,Bool.and_false];exact Bool.false_ne_true
 refine call_meets F.slot_list_extend ⟨_,e,rfl⟩ F.entry_list_extend (F.args_list_extend_2 _ _)
  (AutoSeq1.list_extend_list_list_0 l its.toArray n b its2.toArray n2 hlong (by rw[List.size_toArray];omega) ⋯) ⟨e,e2,?_⟩
 refine⟨.non,_,I.lset (its':=its++its2) hH e (by simp) (r.append r2) ?_,rfl,q⟩;rw[List.length_append];omega
noncomputable def rCat:R2:=λx y H Q=>∃l b xs zs,x=.ref l/\y=.ref b/\H l=some (.lst xs)/\H b=some (.lst zs)/\xs.length+zs.length<=sizeLine/\∀p,H p=none->Q (.ref p) (upd H p (.lst (xs++zs)))
theorem vO:OC X (binaryOp .Add) rCat:=by
 intro pins s σ H x y v u Q I rx ry h;obtain⟨l,b,xs,zs,rfl,rfl,hH,hB,hz,q⟩:=h;cases rx;cases ry;obtain⟨z,its,n,r,hl,e⟩:=I.lstM hH;obtain⟨z2,its2,n2,r2,hl2,e2⟩:=I.lstM hB;refine PySem.P.add_list e e2 ?_ (by rw[List.size_toArray,List.size_toArray];omega);have ea:its.toArray++its2.toArray=(its++its2).toArray:=by simp
 rw[ea];exact⟨.ref _,_,I.lnew (t':=s.toks) (r.append r2) (by rw[List.length_append];omega),rfl,q _ I.fresh⟩
noncomputable def rRep:R2:=λx y H Q=>∃l k xs,x=.ref l/\y=.int k/\H l=some (.lst xs)/\ -(2 ^ 63)<=k/\k < 2 ^ 63/\xs.length * k.toNat<=sizeLine/\
 ∀p,H p=none->Q (.ref p) (upd H p (.lst (List.replicate k.toNat xs).flatten))
theorem OX {α:Type} (xs:List α) (k:Nat):(List.replicate k xs).flatten.length=k * xs.length:=by
 induction k with
 |zero=>simp
 |succ k ih=>rw[List.replicate_succ,List.flatten_cons,List.length_append,ih,Nat.succ_mul,Nat.add_comm]
theorem wU:OC X (binaryOp .Mult) rRep:=by
 intro pins s σ H x y v u Q I rx ry h;obtain⟨l,k,xs,rfl,rfl,hH,h1,h2,hz,q⟩:=h;cases rx;obtain⟨t,rfl⟩:=ry;obtain⟨z,its,n,r,hl,e⟩:=I.lstM hH;have hlen:its.toArray.size * k.toNat<=sizeLine:=by rw[List.size_toArray,<-hl];exact hz
 have hcap:¬its.toArray.size * k.toNat > (2 ^ 63 - 1) / 8:=by
  have:(sizeLine:Nat)<=(2 ^ 63 - 1) / 8:=by decide
  omega
 have hfit:¬(!Builtin.List.listFitsIndex k)=true:=by
  rw[fitsIndex_both h1 h2];exact Bool.false_ne_true
 have hlong:¬Builtin.List.listTooLong (its.toArray.size * k.toNat)=true:=by
  rw[bE hlen];exact Bool.false_ne_true
 have hnew:List.foldl (λx1 x2=>x1++x2) #[] (List.replicate (if its.toArray.isEmpty=true then 0 else k.toNat) its.toArray)=(List.replicate k.toNat its).flatten.toArray:=by
  have f0:∀m:Nat,List.foldl (λx1 x2=>x1++x2) #[] (List.replicate m its.toArray)=(List.replicate m its).flatten.toArray:=λm=>by
   have:=vU its m [];rw[List.nil_append] at this;exact this
  rw[f0];cases its with
  |nil=>simp
  |cons a r'=>rw[if_neg (by simp)]
 refine wpAny_binaryOp_repeat_ref (T:="list") (U:="int") (by decide) ⟨_,e,rfl⟩ (λs'=>typeIs_int s' k t) noFill_list_mul F.fills_int_mul F.slot_int_rmul repeat_list F.slot_int_index.lookup
  (call_meets F.slot_int_rmul (typeIs_int s k t) F.entry_int_rmul (F.args_int_rmul_2 _ _) (int___rmul___int_list k t l its.toArray n)
   ⟨e,rfl,⟨_,e,rfl⟩,call_meets F.slot_list_mul ⟨_,e,rfl⟩ F.entry_list_mul (F.args_list_mul_2 _ _) (AutoListH.list___mul___list_int_3 l its.toArray n k t hfit hcap hlong) ⟨e,?_⟩⟩)
 rw[hnew];exact⟨.ref _,_,I.lnew (t':=s.toks) (r.rep k.toNat) (by rw[OX,Nat.mul_comm];exact hz),rfl,q _ I.fresh⟩
end
section
variable {prog:Program} {w:World} {A:Around} {E:Value->Shared->Prop} {s:Shared}
end
section
variable {X:Cx}
end
end L2
namespace L2
open PySem PySem.Spec PyProof.Rows
section
variable {κ:Type} [DecidableEq κ]
noncomputable def xB (kvs:List (κ×V)) (k:κ):Option V:=(kvs.find? λkv=>decide (kv.1=k)).map (·.2)
noncomputable def YB (kvs:List (κ×V)) (k:κ) (v:V):List (κ×V):=
 if (kvs.any λkv=>decide (kv.1=k))=true then kvs.map (λkv=>if kv.1=k then (kv.1,v) else kv) else kvs++[(k,v)]
noncomputable def bH (kvs:List (κ×V)) (k:κ):List (κ×V):=kvs.filter λkv=>decide (kv.1≠k)
theorem wO {p:κ×V} {r:List (κ×V)} {k:κ} (e:p.1=k):xB (p::r) k=some p.2:=by simp[xB,List.find?_cons,e]
theorem SM {p:κ×V} {r:List (κ×V)} {k:κ} (e:¬p.1=k):xB (p::r) k=xB r k:=by simp[xB,List.find?_cons,e]
theorem xO (k:κ):∀kvs:List (κ×V),(kvs.any λkv=>decide (kv.1=k))=(xB kvs k).isSome
 |[]=>rfl
 |p::r=>by
  rw[List.any_cons];by_cases e:p.1=k
  ·simp only[wO e,decide_eq_true e,Bool.true_or,Option.isSome_some]
  ·rw[SM e,decide_eq_false e,Bool.false_or];exact xO k r
theorem yO (kvs:List (κ×V)) (k:κ) (v:V):(YB kvs k v).length<=kvs.length+1:=by
 unfold YB
 split
 ·rw[List.length_map];omega
 ·rw[List.length_append,List.length_cons,List.length_nil];omega
theorem vC.isSome_eq {o:Option V} {u:Option Value} (r:vC o u):o.isSome=u.isSome:=by
 cases o with
 |none=>cases u with
  |none=>rfl
  |some _=>exact (show False from r).elim
 |some _=>cases u with
  |none=>exact (show False from r).elim
  |some _=>rfl
theorem vC.getD {o:Option V} {u:Option Value} {d:V} {d':Value} (r:vC o u) (rd:sA d d'):sA (o.getD d) (u.getD d'):=by
 cases o with
 |none=>cases u with
  |none=>exact rd
  |some _=>exact (show False from r).elim
 |some _=>cases u with
  |none=>exact (show False from r).elim
  |some _=>exact r
theorem KV.any {kvs:List (κ×V)} {vs:List (κ×Value)} (r:KV kvs vs) (k:κ):(kvs.any λkv=>decide (kv.1=k))=vs.any λkv=>decide (kv.1=k):=by
 unfold KV at r
 induction r with
 |nil=>rfl
 |cons h t ih=>rw[List.any_cons,List.any_cons,ih,h.1]
theorem KV.repl {kvs:List (κ×V)} {vs:List (κ×Value)} (r:KV kvs vs) (k:κ) {y:V} {u:Value} (ry:sA y u):
  KV (kvs.map λkv=>if kv.1=k then (kv.1,y) else kv) (vs.map λkv=>if kv.1=k then (kv.1,u) else kv):=by
 unfold KV at r ⊢
 induction r with
 |nil=>exact .nil
 |@cons p q ps qs h t ih=>
  rw[List.map_cons,List.map_cons];refine .cons ?_ ih;obtain⟨h1,h2⟩:=h;by_cases e:p.1=k
  ·rw[if_pos e,if_pos (h1.symm.trans e)];exact⟨h1,ry⟩
  ·rw[if_neg e,if_neg (λz=>e (h1.trans z))];exact⟨h1,h2⟩
theorem KV.put {kvs:List (κ×V)} {vs:List (κ×Value)} (r:KV kvs vs) (k:κ) {y:V} {u:Value} (ry:sA y u):KV (YB kvs k y) (stored vs k u):=by
 unfold YB stored;rw[r.any k];by_cases e:(vs.any λkv=>decide (kv.1=k))=true
 ·rw[if_pos e,if_pos e];exact r.repl k ry
 ·rw[if_neg e,if_neg e];exact Paired.snoc r ⟨rfl,ry⟩
theorem KV.drop {kvs:List (κ×V)} {vs:List (κ×Value)} (r:KV kvs vs) (k:κ):KV (bH kvs k) (without vs k):=by
 unfold KV at r ⊢;unfold bH without
 induction r with
 |nil=>exact .nil
 |@cons p q ps qs h t ih=>
  obtain⟨h1,h2⟩:=h;rw[List.filter_cons,List.filter_cons];by_cases e:p.1=k
  ·have a:¬decide (p.1≠k)=true:=by simp[e]
   have b:¬decide (q.1≠k)=true:=by simp[h1.symm.trans e]
   rw[if_neg a,if_neg b];exact ih
  ·have e':¬q.1=k:=λz=>e (h1.trans z);have a:decide (p.1≠k)=true:=by simp[e]
   have b:decide (q.1≠k)=true:=by simp[e']
   rw[if_pos a,if_pos b];exact .cons ⟨h1,h2⟩ ih
theorem KV.length {kvs:List (κ×V)} {vs:List (κ×Value)} (r:KV kvs vs):kvs.length=vs.length:=Paired.length r
end
theorem cH {P:Program} {w:World} {k:Key} {u:Value} (r:sA (kV k) u):(QA P w).is k u=true:=by
 cases k with
 |inl i=>obtain⟨t,e⟩:=(show ∃t,u=Value.int i t from r);subst e;exact eX P w i t
 |inr x=>obtain⟨t,e⟩:=(show ∃t,u=Value.str x t from r);subst e;exact fX P w x t
theorem xU {P:Program} {w:World}:∀{ks:List Key} {us:List Value},pA (ks.map kV) us->ItemsAre (QA P w) ks us
 |[],_,r=>by rw[List.map_nil] at r;cases r;exact .nil
 |k::ks,_,r=>by
  rw[List.map_cons] at r;cases r with
  |cons h t=>exact .cons (cH h) (xU t)
noncomputable abbrev KT (H:Hp):List (List Key×V)->List (List Key×Addr×Value)->Prop:=Paired λp q=>p.1=q.1/\H q.2.1=some (.tup (p.1.map kV))/\sA p.2 q.2.2
theorem KT.val {H:Hp} {kvs:List (List Key×V)} {xs:List (List Key×Addr×Value)} (r:KT H kvs xs) (k:List Key):vC (xB kvs k) ((atKey xs k).map (·.2)):=by
 induction r with
 |nil=>exact True.intro
 |@cons p q ps qs h t ih=>
  obtain⟨h1,_,h2⟩:=h;by_cases e:p.1=k
  ·have e':q.1=k:=h1.symm.trans e;have b:atKey (q::qs) k=some q.2:=by simp[atKey,List.find?_cons,e']
   rw[wO e,b];exact h2
  ·have e':¬q.1=k:=λz=>e (h1.trans z);have b:atKey (q::qs) k=atKey qs k:=by simp[atKey,List.find?_cons,e']
   rw[SM e,b];exact ih
theorem KT.repl {H:Hp} {kvs:List (List Key×V)} {xs:List (List Key×Addr×Value)} (r:KT H kvs xs) (k:List Key) {y:V} {u:Value} (ry:sA y u):
  KT H (kvs.map λkv=>if kv.1=k then (kv.1,y) else kv) (xs.map (putAt k u)):=by
 induction r with
 |nil=>exact .nil
 |@cons p q ps qs h t ih=>
  rw[List.map_cons,List.map_cons];refine .cons ?_ ih;obtain⟨h1,h2,h3⟩:=h;unfold putAt;by_cases e:p.1=k
  ·rw[if_pos e,if_pos (h1.symm.trans e)];exact⟨h1,h2,ry⟩
  ·rw[if_neg e,if_neg (λz=>e (h1.trans z))];exact⟨h1,h2,h3⟩
theorem KT.put {H:Hp} {kvs:List (List Key×V)} {xs:List (List Key×Addr×Value)} (r:KT H kvs xs) (k:List Key) {b:Addr} {y:V} {u:Value} (hb:H b=some (.tup (k.map kV))) (ry:sA y u):
  KT H (YB kvs k y) (storedH xs k b u):=by
 have e:(kvs.any λkv=>decide (kv.1=k))=(atKey xs k).isSome:=by
  rw[xO,(r.val k).isSome_eq,Option.isSome_map]
 unfold YB storedH;rw[e];by_cases q:(atKey xs k).isSome=true
 ·rw[if_pos q,if_pos q];exact r.repl k ry
 ·rw[if_neg q,if_neg q];exact Paired.snoc r ⟨rfl,hb,ry⟩
theorem KT.keeps {H H':Hp} {kvs:List (List Key×V)} {xs:List (List Key×Addr×Value)} (r:KT H kvs xs) (ht:∀b ys,H b=some (.tup ys)->H' b=some (.tup ys)):KT H' kvs xs:=
 Paired.mapP r λ_ _ z=>⟨z.1,ht _ _ z.2.1,z.2.2⟩
section
variable {P:Program} {w:World} {H:Hp} {h:Heap} {a:Addr}
theorem dH {u:HO} (ok:cC P w H h) (e:Rd H a u):CA P w H h a u:=e.ok ok
theorem fH {kvs:List (Key×V)} (ok:cC P w H h) (e:Rd H a (.dK kvs)):kvs.length<=sizeLine/\(a == sysModules)=false/\∃vs,KV kvs vs/\h.DictOf (QA P w) a vs:=
 show CA P w H h a (.dK kvs) from dH ok e
theorem gL {kvs:List (Key×V)} (ok:cC P w H h) (e:H a=some (.dK kvs)):kvs.length<=sizeLine/\(a == sysModules)=false/\∃vs,KV kvs vs/\h.DictOf (QA P w) a vs:=fH ok (.inl e)
theorem TM {ks:List Key} (ok:cC P w H h) (e:H a=some (.tup (ks.map kV))):(tupleKind (QA P w)).is h ks a:=by
 obtain⟨_,its,r,o,h1,h2,n,h3⟩:=(show CA P w H h a (.tup (ks.map kV)) from ok a _ e)
 exact⟨o,its.toArray,n,h1,h2,h3,by simpa using xU r⟩
theorem zO {kvs:List (List Key×V)} (ok:cC P w H h) (e:Rd H a (.dT kvs)):kvs.length<=sizeLine/\(a == sysModules)=false/\
  ∃xs,KT H kvs xs/\h.DictOfH (tupleKind (QA P w)) a xs:=by
 obtain⟨z,y,xs,r,o,es,ep,h1,h2,h3,h4,h5⟩:=(show CA P w H h a (.dT kvs) from dH ok e)
 refine⟨z,y,xs,r,o,es,ep,h1,h2,h3,h4,λx hx=>?_,h5⟩;have all:∀{l:List (List Key×V)} {m:List (List Key×Addr×Value)},KT H l m->∀x∈m,(tupleKind (QA P w)).is h x.1 x.2.1:=by
  intro l m q
  induction q with
  |nil=>intro x hx;exact nomatch hx
  |@cons p q ps qs hq t ih=>
   intro x hx;rcases List.mem_cons.mp hx with e|hx
   ·subst e;exact TM ok (by rw[<-hq.1];exact hq.2.1)
   ·exact ih x hx
 exact all r x hx
theorem eK {kvs:List (List Key×V)} (ok:cC P w H h) (e:H a=some (.dT kvs)):kvs.length<=sizeLine/\(a == sysModules)=false/\
 ∃xs,KT H kvs xs/\h.DictOfH (tupleKind (QA P w)) a xs:=zO ok (.inl e)
end
noncomputable def zG (H:Hp) (a:Addr) (y:V) (r:Option V):Prop:=
 (∃kvs k,Rd H a (.dK kvs)/\y=kV k/\r=xB kvs k)\/∃kvs k b,Rd H a (.dT kvs)/\y=.ref b/\H b=some (.tup (k.map kV))/\r=xB kvs k
noncomputable def bF (H:Hp) (a:Addr) (y v:V) (H':Hp):Prop:=
 (∃kvs k,H a=some (.dK kvs)/\y=kV k/\kvs.length < sizeLine/\H'=upd H a (.dK (YB kvs k v)))\/
 ∃kvs k b,H a=some (.dT kvs)/\y=.ref b/\H b=some (.tup (k.map kV))/\kvs.length < sizeLine/\H'=upd H a (.dT (YB kvs k v))
theorem zG.k {H:Hp} {a:Addr} {kvs:List (Key×V)} {k:Key} (e:H a=some (.dK kvs)):zG H a (kV k) (xB kvs k):=.inl ⟨kvs,k,.inl e,rfl,rfl⟩
theorem zG.t {H:Hp} {a b:Addr} {kvs:List (List Key×V)} {k:List Key} (e:H a=some (.dT kvs)) (eb:H b=some (.tup (k.map kV))):zG H a (.ref b) (xB kvs k):=.inr ⟨kvs,k,b,.inl e,rfl,eb,rfl⟩
theorem bF.k {H:Hp} {a:Addr} {kvs:List (Key×V)} {k:Key} {v:V} (e:H a=some (.dK kvs)) (hl:kvs.length < sizeLine):bF H a (kV k) v (upd H a (.dK (YB kvs k v))):=.inl ⟨kvs,k,e,rfl,hl,rfl⟩
theorem bF.t {H:Hp} {a b:Addr} {kvs:List (List Key×V)} {k:List Key} {v:V} (e:H a=some (.dT kvs)) (eb:H b=some (.tup (k.map kV))) (hl:kvs.length < sizeLine):
 bF H a (.ref b) v (upd H a (.dT (YB kvs k v))):=.inr ⟨kvs,k,b,e,rfl,eb,hl,rfl⟩
section
variable {X:Cx} {pins:List (Addr×Obj)} {σ:St} {H:Hp} {s:Shared} {a:Addr} {y v:V} {u r:Value} {o:Option V} {A:Around} {E:Value->Shared->Prop}
theorem jA.big (I:jA X pins σ H s):sysModules < s.heap.objs.size:=by
 have h:mainGlobals < s.heap.objs.size:=(I.mod.glob.keeps I.bk).lt;exact Nat.lt_trans (by decide) h
theorem UM {h':Heap} {t':Nat} {ob:HO} (I:jA X pins σ H s) (mu:FK (H a)) (hs:Heap.SameBut a s.heap h') (he:∃q,h'.get? a=some q) (new:CA X.prog X.w (upd H a ob) h' a ob):
  jA X pins σ (upd H a ob) {s with heap:=h',toks:=t'}:=
 I.write (x:=a) (e:=a) mu (.inl rfl) (λb q hb z=>(hs.2 b hb).trans z) he new
theorem wI {P:Program} {w:World} {H':Hp} {h':Heap} {kvs:List (Key×V)} {vs:List (Key×Value)} (z:kvs.length<=sizeLine) (hd:(a == sysModules)=false) (rel:KV kvs vs) (dd:h'.DictOf (QA P w) a vs):
 CA P w H' h' a (.dK kvs):=⟨z,hd,vs,rel,dd⟩
theorem PX {H':Hp} {Q:Unit->Shared->Prop} (hu:A.units+1 < cLine) (I:jA X pins σ H s) (g:bF H a y v H') (ry:sA y u) (rv:sA v r) (h:∀s',jA X pins σ H' s'->Q () s'):
  wpAny (model X.prog X.w) A (setItem (.ref a) u r) Q E s:=by
 rcases g with ⟨kvs,k,e,ey,l,eH⟩|⟨kvs,k,b,e,ey,eb,l,eH⟩
 ·subst ey eH;obtain⟨z,hd,vs,rel,dd⟩:=gL I.hok e;have hz:vs.length<=sizeLine:=by rw[<-rel.length];exact z
  have hl:(YB kvs k v).length<=sizeLine:=by have:=yO kvs k v;omega
  refine wpAny_setItem_pairs (hsz:=hz) (cH ry) dd λh' dd' hs=>h _ ?_;have he:∃q,h'.get? a=some q:=let ⟨q,_,_,hq,_⟩:=dd';⟨q,hq⟩
  exact UM I (by rw[e];exact True.intro) hs he (wI hl hd (rel.put k rv) dd')
 ·subst ey eH;cases (show u=Value.ref b from ry);obtain⟨z,hd,xs,rel,dd⟩:=eK I.hok e;have hz:xs.length<=sizeLine:=by rw[<-Paired.length rel];exact z
  have hl:(YB kvs k v).length<=sizeLine:=by have:=yO kvs k v;omega
  refine wpAny_setItem_heap (hsz:=hz) (tupleKind_room_in1 hu) (TM I.hok eb) dd λh' dd' hs=>h _ ?_;obtain⟨q,es,ep,hq,h2,h3,h4,_,h5⟩:=dd';refine UM I (by rw[e];exact True.intro) hs ⟨q,hq⟩ ⟨hl,hd,_,(rel.put k eb rv).keeps λc ys ec=>?_,q,es,ep,hq,h2,h3,h4,h5⟩;rw[oA (bC ec e (λz=>nomatch z))];exact ec
end
section
variable {X:Cx} {pins:List (Addr×Obj)} {σ:St} {H:Hp} {s:Shared} {a:Addr} {kvs:List (Key×V)} {k:Key} {u:Value} {A:Around} {E:Value->Shared->Prop}
end
noncomputable def gH (td ty tv:TE):TS:=λD σ H=>tv σ H λv H1=>td σ H1 λx H2=>ty σ H2 λy H3=>∃a H4,x=.ref a/\bF H3 a y v H4/\D.nx σ H4
section
variable {X:Cx} {o i e value:Expr} {pos pos' tpos:Pos} {td ty tv:TE}
theorem QX (hu:X.A.units+1 < cLine) (ho:PE X o td) (hi:PE X i ty) (hv:PE X value tv) (hs:swapsWith value (some (.Subscript o i pos')) pos.line X.env=pure false):
  PS X (.Assign [.Subscript o i pos'] value pos) (gH td ty tv):=by
 intro pins s σ H D I h;refine wpAny_Assign_Subscript (YA (hv pins s σ H _ I h) λr s1 ⟨v,H1,I1,rv,q1⟩=>YA (ho pins s1 σ H1 _ I1 q1) λu s2 ⟨x,H2,I2,rx,q2⟩=>YA (hi pins s2 σ H2 _ I2 q2) λiv s3 ⟨y,H3,I3,ry,a,H4,ex,g,q3⟩=>?_) hs;subst ex;obtain rfl:u=Value.ref a:=rx;exact PX hu I3 g ry rv λs4 I4=>⟨σ,H4,I4,q3⟩
end
theorem yU {P:Program} {w:World} {H:Hp} (h:Heap) (hb:sysModules < h.objs.size):CA P w H (h.push {cls:=.type "dict",data:=.dict #[]}) h.objs.size (.dT []):=
 ⟨Nat.zero_le _,beq_eq_false_iff_ne.mpr (Ne.symm (Nat.ne_of_lt hb)),[],.nil,_, #[],0,Heap.get?_push_size _ rfl,⟨rfl,rfl,rfl⟩,rfl,rfl,List.nodup_nil⟩
noncomputable def tDNewT:TE:=λ_ H Q=>∀p,H p=none->Q (.ref p) (upd H p (.dT []))
section
variable {X:Cx} {pos:Pos}
theorem RX:PE X (.Dict [] [] pos) tDNewT:=λpins s σ H Q I h=>
 wpAny_Dict_empty ⟨.ref s.heap.objs.size,_,I.laid (a:=s.heap.objs.size) (o:=.dT []) (t':=s.toks) (λ_ _ q=>Heap.get?_push_of_some _ q) (Nat.le_refl _) (yU s.heap I.big),rfl,h _ (I.hok.fresh (Nat.le_refl _))⟩
end
structure M2 (X:Cx) (o:Expr) (m:Str) (apos:Pos) (e f:Expr) (cpos:Pos):Prop where
 base:attributeBase o m X.env (eval o X.env)=eval o X.env
 few:((backTo cpos (starEach [e,f] X.env)).all (λx=> !x.1)&&(backToKw cpos (keywordEach [] X.env)).all (λx=>x.1.isSome)
  &&decide (([e,f]:List Expr).length+([]:List Keyword).length+(if ([]:List Keyword).isEmpty then 0 else 1) < 30))=true
 line:(apos.endLine == cpos.line)=true
 trees:backTo cpos (starEach [e,f] X.env)=[(false,eval e X.env),(false,eval f X.env)]
noncomputable def zU (H:Hp) (a:Addr):Prop:=(∃kvs,Rd H a (.dK kvs))\/∃kvs,Rd H a (.dT kvs)
theorem xI {X:Cx} {pins:List (Addr×Obj)} {σ:St} {H:Hp} {s:Shared} {a:Addr} (I:jA X pins σ H s) (d:zU H a):
  s.TypeIs (.ref a) "dict"/\(∀b,Value.ref a=.ref b->∃ob,s.heap.get? b=some ob/\ob.dict=none)/\(a == sysModules)=false:=by
 rcases d with ⟨kvs,e⟩|⟨kvs,e⟩
 ·obtain⟨_,hd,vs,_,dd⟩:=fH I.hok e;refine⟨dd.typeIs,λb q=>?_,hd⟩;cases q;obtain⟨ob,_,_,h1,h2,_⟩:=dd;exact⟨ob,h1,h2.2.1⟩
 ·obtain⟨_,hd,xs,_,dd⟩:=zO I.hok e;refine⟨dd.typeIs,λb q=>?_,hd⟩;cases q;obtain⟨ob,_,_,h1,h2,_⟩:=dd;exact⟨ob,h1,h2.2.1⟩
section
variable {X:Cx} {pins:List (Addr×Obj)} {σ:St} {H:Hp} {s:Shared} {a:Addr} {y d:V} {u r:Value} {o:Option V} {A:Around} {E:Value->Shared->Prop}
end
section
variable {X:Cx} {o e f:Expr} {apos cpos:Pos} {td ty tx:TE}
end
section
variable {X:Cx} {pins:List (Addr×Obj)} {σ:St} {H:Hp} {s:Shared} {a:Addr} {kvs:List (Key×V)} {A:Around} {E:Value->Shared->Prop}
end
section
variable {X:Cx} {pins:List (Addr×Obj)} {σ:St} {H:Hp} {s:Shared} {a:Addr} {y:V} {u:Value} {A:Around} {E:Value->Shared->Prop}
end
end L2
namespace Att
open PySem PySem.W PySem.Calls PyProof.Rows
theorem SX {P:Params} {h:Heap}:∀(ns:List Int) (vs:List Value),WellAll P h vs (ns.map WData.int)->IntsAre vs ns:=by
 intro ns
 induction ns with
 |nil=>
  intro vs w;rw[List.map_nil] at w;cases w;exact .nil
 |cons n ns ih=>
  intro vs w;rw[List.map_cons] at w;cases w with
  |cons a b=>
   cases a;exact .cons _ _ (ih _ b)
theorem TX {l:OpenLaw} {n:Nat} (hn:l.most=some n) {P:Params} {h:Heap} {args:List WData} {vals:List Value}
  (hpre:l.row.toRowW.claim.pre args=true) (hwl:WellAll P h vals args):
  ∃a vs ns,vals=[Value.ref a]/\args=[WData.list (ns.map WData.int)]/\h.get? a=some {cls:=.type "list",data:=.seq vs.toArray}/\IntsAre vs ns/\ns.length<=n:=by
 have hsh:WShape.hasAll [] args [.list .int]=true:=(pre_splitW hpre).1;have hc:l.pre.holds [] {args:=args}=true:=(pre_splitW hpre).2;obtain⟨d,r,rfl,h1,h2⟩:=hasAllW_cons hsh;obtain rfl:=hasAllW_nil h2;obtain⟨xs,rfl,h3⟩:=hasW_list h1;obtain⟨ns,rfl⟩:=items_int h3;have hlen:ns.length<=n:=by
  unfold OpenLaw.pre at hc;have h4:(WTm.not (.lt (.lit (.int (n:Int))) (.len (.arg 0)))).holds [] {args:=[.list (ns.map .int)]}=true:=by
   have h4:=(holds_andW hc).1;rw[hn] at h4;exact h4
  have h5:=condW_of h4 (w_not (w_lt w_lit (w_len_list (w_arg rfl))));rw[List.length_map] at h5;refine Nat.le_of_not_lt λq=>?_;have q':(n:Int) < ((ns.length:Nat):Int):=⋯
  first
   |(rw[decide_eq_true q'] at h5;exact absurd h5 (by decide))
   |(simp at h5;omega)
 cases hwl with
 |cons w1 w2=>
  cases w2;cases w1 with
  |list ho hall=>exact⟨_,_,ns,rfl,rfl,ho,SX ns _ hall,hlen⟩
theorem UX (l:OpenLaw) (args:List WData):l.row.toRowW.claim.post args (.bool true) args=true:=
 postW_of (r:=l.row.toRowW) (X:=(true == true))
  (show WShape.has [] (.bool true) .bool=true by first|rfl|decide|simp[WShape.has,WShape.arms,WShape.armsAll])
  (show (WTm.eq .res (.lit (.bool true))).value [] {args:=args,res:=some (.bool true),after:=args}=some (.bool (true == true)) from w_eq_bool (w_res rfl) w_lit) rfl
theorem VX {l:OpenLaw} {n:Nat} {q:Program} {loose:List Str} {XP:(Str->Option Value)->Heap->Prop} {YP:World->Heap->Prop} {d:DefRec}
  (hn:l.most=some n) (hdf:d.params.defaults=[])
  (call:∀(w:World) (s₀ s₁:Shared) (mg mb:Str->Option Value) (fa:Addr) (o:Obj) (pm cd doc:Value) (a:Addr) (vs:List Value) (ns:List Int),
   Ground q loose [] XP w s₀ mg mb s₁.heap->YP w s₁.heap->
   s₁.heap.get? fa=some o->o.data=.func (docDef d.name d.params d.body d.scope pm cd doc)->s₁.heap.CodeRec cd d.name->mg d.name=some (.ref fa)->
   s₁.heap.get? a=some {cls:=.type "list",data:=.seq vs.toArray}->IntsAre vs ns->ns.length<=n->s₁.gens= #[]->
   codeAny (model l.prog w) callerA (.call (.ref fa) ⟨[.ref a],[]⟩) (λr s'=>r=.ok (.ret (.bool true))/\OldK s₁.heap s'.heap/\s'.os=s₁.os/\AllBare s'.gens) s₁):
  WalkO q loose XP YP l.row.toRowW d [] (λf vs=>PySem.call f vs):=by
 intro w s₀ s₁ mg mb G Y fa o pm cd doc dV kV ho hd hcd hD hmg hg args vals as hpre hlay hrd hwl hlo;obtain rfl:dV=.none:=Dflts.none hD hdf;obtain rfl:kV=.none:=Dflts.noKw hD;obtain⟨a,vs,ns,rfl,rfl,hobj,hints,hlen⟩:=TX hn hpre hwl;refine enter_call (codeAny_mono (call w s₀ s₁ mg mb fa o pm cd doc a vs ns G Y ho (fd_plain hd) hcd hmg hobj hints hlen hg) λr s' hq=>?_);obtain⟨rfl,h2,h3,h4⟩:=hq;exact⟨.inl ⟨.bool true,.bool true,[],rfl,λ_=>rfl,.bool true,UX l _,λ_=>⟨List.Pairwise.nil,λ_ hm=>(nomatch hm)⟩⟩,h2,h3,h4⟩
section
variable {prog:Program} {w:World} {A:Around} {E:Value->Shared->Prop} {s:Shared} {K:Frag}
noncomputable def ledger (h:Heap) (L d:Addr):List (Addr×Obj):=(List.range h.objs.size).filterMap λa=>if a=L\/a=d then none else (h.get? a).map λo=>(a,o)
end
end Att
namespace L2
open PySem PySem.Spec PyProof.Rows
theorem AU:∀{vs:List Value} {ns:List Int},IntsAre vs ns->pA (ns.map V.int) vs
 |_,_,.nil=>.nil
 |_,_,.cons n t h=>.cons ⟨t,rfl⟩ (AU h)
noncomputable def yI (H:Hp):Prop:=∀b,H b=none\/∃o xs,H b=some (.frz o (.lst xs))
theorem WX {P:Program} {w:World} {K:PySem.W.Frag} {mg mb:Str->Option Value} {CX:CXT} {k:Nat} {fa a:Addr} {fd:FuncData} {x:Str} {sp:Sp} {s₁:Shared} {vs:List Value} {ns:List Int}
  (KX:K.In s₁.heap) (hns:s₁.heap.Ns mainGlobals mg) (hb:s₁.heap.Ns builtinsNs mb) (hbb:∀x:Str,x≠"__name__"->mb x=bootBuiltins x) (hlim:s₁.heap.NoLimit) (hg:s₁.gens= #[])
  (ha:s₁.heap.get? a=some {cls:=.type "list",data:=.seq vs.toArray}) (hi:IntsAre vs ns) (hl:ns.length<=sizeLine) (hr:rB k callerA)
  (F:∀base:Heap,K.In base->base.Ns mainGlobals mg->zC P w K mg base CX k fa fd [x] sp) (hbind:∀(s:Shared) (u:Value),BindsTo s fd ⟨[u],[]⟩ [(x,u)])
  (hsp:∀H:Hp,yI H->kA K H a (ns.map V.int)->sp [.ref a] H (λv _=>v=.bl true) λ_ _ _=>False)
  (hCX:∀H e s',CX [] H s₁ (λ_ _ _=>False) e s'->False):
  codeAny (model P w) callerA (.call (.ref fa) ⟨[.ref a],[]⟩) (λr s'=>r=.ok (.ret (.bool true))/\OldK s₁.heap s'.heap/\s'.os=s₁.os/\AllBare s'.gens) s₁:=by
 have rv:=AU hi;have lenV:=hi.length;have core:∀H:Hp,yI H->kA K H a (ns.map V.int)->cC P w H s₁.heap->(∀b,H b≠none->b=a)->(H a≠none->K.lookup a=none)->
   codeAny (model P w) callerA (.call (.ref fa) ⟨[.ref a],[]⟩) (λr s'=>r=.ok (.ret (.bool true))/\OldK s₁.heap s'.heap/\s'.os=s₁.os/\AllBare s'.gens) s₁:=by
  intro H hO hS hok hA hK;have base_of:∀{b:Addr} {o:Obj},s₁.heap.get? b=some o->H b=none->(ID s₁.heap H).get? b=some o:=λe n=>jX e n;have noA:∀{b:Addr} {o:Obj} {es:Array DictEntry} {ep:Nat},s₁.heap.get? b=some o->o.data=.dict es ep->H b=none:=λ{b o es ep} e d=>by
   cases q:H b with
   |none=>rfl
   |some u=>
    have e':b=a:=hA b (by rw[q];simp);subst e';rw[ha] at e;cases e;have d':Data.seq vs.toArray _=Data.dict es ep:=d;cases d'
  have nsK:∀{b:Addr} {m:Str->Option Value},s₁.heap.Ns b m->(ID s₁.heap H).Ns b m:=λ{b m} ⟨o,es,ep,e,d,r⟩=>⟨o,es,ep,base_of e (noA e d),d,r⟩
  have hKb:K.In (ID s₁.heap H):=λb o e=>base_of (KX b o e) (by
   cases q:H b with
   |none=>rfl
   |some u=>
    have e':b=a:=hA b (by rw[q];simp);subst e';rw[hK (by rw[q];simp)] at e;cases e)
  have hM:Mod K mg (ID s₁.heap H):=⟨hKb,nsK hns,⟨mb,nsK hb,hbb⟩,let ⟨mc,h1,h2⟩:=hlim;⟨mc,nsK h1,h2⟩⟩
  have e0:zE P w K mg (ID s₁.heap H) callerA [] s₁ H:=⟨rfl,hM,λb o e=>kX e,Nat.le_of_eq (iX _ _),trivial,λb hb=>absurd (show b∈([]:List Addr) from hb) (by simp),hok,.of_eq hg⟩
  refine codeAny_mono ((F _ hKb (nsK hns)).run callerA [] s₁ H ⟨[.ref a],[]⟩ [.ref a] [.ref a] _ _ hr e0 (hbind s₁ (.ref a)) (.cons rfl .nil) (hsp H hO hS)) λr s' h=>?_;cases r with
  |error e=>exact (hCX H e s' h).elim
  |ok fl=>
   cases fl with
   |next=>exact False.elim h
   |brk=>exact False.elim h
   |cont=>exact False.elim h
   |ret u=>
    obtain⟨v,H',os,bare,un,hok',r',q⟩:=h;have q':v=.bl true:=q;subst q';obtain rfl:u=Value.bool true:=r';refine⟨rfl,OldK.of_keep λb o e=>?_,os,bare⟩;cases q:H b with
    |none=>exact un.keep b o e q (by intro z;exact absurd (show b∈([]:List Addr) from z) (by simp)) (by simp)
    |some u=>
     rcases hO b with z|⟨ob,xs,z⟩
     ·rw[q] at z;cases z
     ·have z2:=un.frzs b ob _ z;obtain⟨e1,_⟩:=hok b _ z;obtain⟨e2,_⟩:=hok' b _ z2;rw[e] at e1;cases e1;exact e2
 cases hk:K.lookup a with
 |some o=>
  have e:=KX a o hk;rw[ha] at e;cases e;refine core (λ_=>none) (λ_=>.inl rfl) (.inr ⟨_,vs.toArray,_,hk,rfl,rfl,rfl,by rw[List.size_toArray,lenV];exact hl,by simpa using rv⟩) (λb u z=>by have z':(none:Option HO)=some u:=z;cases z') (λb z=>absurd rfl z) λz=>absurd rfl z
 |none=>
  refine core (λb=>if b=a then some (.frz {cls:=.type "list",data:=.seq vs.toArray} (.lst (ns.map V.int))) else none) (λb=>?_) (.inl (.inr ⟨{cls:=.type "list",data:=.seq vs.toArray},if_pos rfl⟩)) (λb u z=>?_) (λb z=>?_) λ_=>hk
  ·by_cases hb:b=a
   ·exact .inr ⟨_,_,if_pos hb⟩
   ·exact .inl (if_neg hb)
  ·by_cases hb:b=a
   ·have z':=(if_pos hb).symm.trans z;cases z';subst hb;exact⟨ha,by rw[List.length_map];exact hl,vs,_,rv,ha⟩
   ·have z':=(if_neg hb).symm.trans z;cases z'
  ·by_cases hb:b=a
   ·exact hb
   ·exact absurd (if_neg hb) z
end L2
namespace L2
open PySem PySem.Spec PyProof.Rows
theorem XX {l:PySem.W.OpenLaw} {n k:Nat} {q:Program} {loose:List Str} {XP:(Str->Option Value)->Heap->Prop} {YP:World->Heap->Prop} {d:DefRec} {K:Params->PySem.W.Frag} {CX:World->CXT} {sp:World->Sp} {x:Str}
  (hn:l.most=some n) (hn2:n<=sizeLine) (hdf:d.params.defaults=[]) (hr:rB k callerA)
  (hY:∀(w:World) (h:Heap),YP w h->(K w.params).In h)
  (F:∀(w:World) (mg:Str->Option Value) (fa:Addr) (h:Heap),(K w.params).In h->h.Ns mainGlobals mg->mg d.name=some (.ref fa)->
   ∃fd:FuncData,(∀(s:Shared) (u:Value),BindsTo s fd ⟨[u],[]⟩ [(x,u)])/\
    ∀base:Heap,(K w.params).In base->base.Ns mainGlobals mg->zC l.prog w (K w.params) mg base (CX w) k fa fd [x] (sp w))
  (hsp:∀(w:World) (H:Hp) (a:Addr) (ns:List Int),ns.length<=n->yI H->kA (K w.params) H a (ns.map V.int)->sp w [.ref a] H (λv _=>v=.bl true) λ_ _ _=>False)
  (hCX:∀(w:World) (H:Hp) (s:Shared) (e:Value) (s':Shared),CX w [] H s (λ_ _ _=>False) e s'->False):
  PySem.W.WalkO q loose XP YP l.row.toRowW d [] (λf vs=>PySem.call f vs):=by
 refine Att.VX hn hdf λw s₀ s₁ mg mb fa o pm cd doc a vs ns G Y ho hd hcd hmg hobj hints hlen hg=>?_;have KX:=hY w _ Y;obtain⟨fd,hb,hF⟩:=F w mg fa _ KX G.T.g hmg;exact WX KX G.T.g G.T.b G.T.builtins G.T.nolimit hg hobj hints (Nat.le_trans hlen hn2) hr hF hb (λH hO hS=>hsp w H a ns hlen hO hS) λH e s'=>hCX w H s₁ e s'
end L2
namespace L2
open PySem PySem.Spec PyProof.Rows
noncomputable def cA (s:Stmt) (j:Nat):Stmt:=match s with
 |.ClassDef _ _ _ body _ _ _ _ _ _ _=>body.getD j (.Pass ⟨0,0,0,0⟩)
 |_=>.Pass ⟨0,0,0,0⟩
noncomputable def fB (s:Stmt):Arguments:=match s with
 |.FunctionDef _ a _ _ _ _ _ _ _ _=>a
 |_=>{posonlyargs:=[],args:=[],vararg:=none,kwonlyargs:=[],kw_defaults:=[],kwarg:=none,defaults:=[]}
noncomputable def RA (s:Stmt):List Stmt:=match s with
 |.FunctionDef _ _ b _ _ _ _ _ _ _=>b
 |_=>[]
noncomputable def bA (s:Stmt):Scope:=match s with
 |.FunctionDef _ _ _ _ _ _ sc _ _ _=>sc
 |_=>{kind:=.function,names:=[],isGenerator:=false,isCoroutine:=false}
noncomputable abbrev BU:CXT:=λ_ _ _ _ _ _=>False
structure AE (K:PySem.W.Frag) (x qual:Str) (st:Stmt) (f:Addr) (fd:FuncData):Prop where
 ex:∃(oc:Value) (od:Option Addr) (kV doc pm:Value) (an:Option Addr) (cdv ct:Value) (osl:Array (Option Value)),
  fd=PySem.W.fnOf x qual (fB st) (RA st) (bA st) .none kV doc pm an cdv ct/\K.lookup f=some ⟨oc,od,.func fd,osl⟩/\PySem.W.codeIn K cdv qual=true
 kp:PySem.W.keepIn K (.ref f)=true
section
variable {P:Program} {w:World} {K:PySem.W.Frag} {mg:Str->Option Value} {base:Heap}
theorem AE.ok {x qual:Str} {st:Stmt} {f:Addr} {fd:FuncData} {N ps:List Str} {k:Nat} {sp:Sp} (F:AE K x qual st f fd) (S:fA N ps (bA st)) (len:∀vs H Q E,sp vs H Q E->vs.length=ps.length)
  (hbody:∀(cdv:Value) (A:Around) (outer:List Env) (s:Shared) (H:Hp) (vs:List V) (Q:VK) (E:XK),rB k (A.deeper (envOfC qual (bA st) s.heap.objs.size f cdv))->sp vs H Q E->
   ∃t,WD (RB BU P w K mg base N qual (bA st) f cdv A outer s H E).nox (RA st) t/\t {nx:=λ_ H'=>Q .non H',rt:=Q} (nC N vs) H):zC P w K mg base BU (k+1) f fd ps sp:=by
 obtain⟨oc,od,kV,doc,pm,an,cdv,ct,osl,rfl,lk,hcd⟩:=F.ex;refine oO lk hcd S len λA outer s H vs Q E hr hsp=>?_;obtain⟨t,h,q⟩:=hbody cdv A outer s H vs Q E hr hsp;exact⟨t,h.nox,q⟩
theorem AE.binds {x qual:Str} {st:Stmt} {f:Addr} {fd:FuncData} {ps:List Str} (F:AE K x qual st f fd)
  (h:∀(kV doc pm:Value) (an:Option Addr) (cdv ct:Value) (us:List Value),us.length=ps.length->bindArgs (PySem.W.fnOf x qual (fB st) (RA st) (bA st) .none kV doc pm an cdv ct) ⟨us,[]⟩=pure (ps.zip us)):VB K fd ps []:=by
 obtain⟨oc,od,kV,doc,pm,an,cdv,ct,osl,rfl,lk,hcd⟩:=F.ex;exact .all (h kV doc pm an cdv ct)
theorem AO {x qual:Str} {st:Stmt} {f:Addr} {oc:Value} {od an:Option Addr} {osl:Array (Option Value)} {kV doc pm cdv ct:Value} (l:K.lookup f=some ⟨oc,od,.func (PySem.W.fnOf x qual (fB st) (RA st) (bA st) .none kV doc pm an cdv ct),osl⟩)
 (c:PySem.W.codeIn K cdv qual=true) (k:PySem.W.keepIn K (.ref f)=true):AE K x qual st f (PySem.W.fnOf x qual (fB st) (RA st) (bA st) .none kV doc pm an cdv ct):=⟨⟨oc,od,kV,doc,pm,an,cdv,ct,osl,rfl,l,c⟩,k⟩
end
theorem BO {A:Around} {k:Nat} (hr:rB k A):A.units+1 < cLine:=Nat.lt_of_le_of_lt (Nat.add_le_add_left (by decide:1<=64) _) hr.units
section
variable {X:Cx}
end
theorem UA {A B:Prop} (h:B):if false=true then A else B:=by
 rw[if_neg Bool.false_ne_true];exact h
theorem ZB {A B:Prop} (h:A):if true=true then A else B:=by
 rw[if_pos rfl];exact h
theorem OD {c A B:Prop} [Decidable c] (h1:c->A) (h2:¬c->B):if c then A else B:=by
 by_cases h:c
 ·rw[if_pos h];exact h1 h
 ·rw[if_neg h];exact h2 h
noncomputable def iA (H H':Hp):Prop:=∀b o,H b=some o->H' b=some o
theorem iA.trans {H H1 H2:Hp} (a:iA H H1) (b:iA H1 H2):iA H H2:=λc o h=>b c o (a c o h)
theorem iA.free {H H':Hp} (e:iA H H') {l:Addr} (h:H' l=Option.none):H l=Option.none:=by
 cases q:H l with
 |none=>rfl
 |some o=>
  rw[e l o q] at h;cases h
theorem iA.seq {K:PySem.W.Frag} {H H':Hp} {a:Addr} {xs:List V} (e:iA H H') (h:kA K H a xs):kA K H' a xs:=by
 rcases h with (h|⟨o,h⟩)|h
 ·exact .inl (.inl (e _ _ h))
 ·exact .inl (.inr ⟨o,e _ _ h⟩)
 ·exact .inr h
section
variable {κ:Type} [DecidableEq κ]
end
end L2
set_option maxHeartbeats 4000000
namespace L2
open PySem PySem.Spec PyProof.Rows
section
variable {M:Model} {A:Around} {E:Value->Shared->Prop} {s:Shared}
noncomputable def PD (e:Addr) (h:Heap):Prop:=∃o vs,h.get? e=some o/\o.data=.fields vs/\vs[2]?=some .none
theorem DF {B:Heap} {env:Env} {ol:List Env} {L e:Addr} {oe:Obj} {vs:Array Value} {hd0 a0:Value} {nx:Bool} {Q:Unit->Shared->Prop}
  (fr:A.frames=some (env::ol)) (ff:s.heap.FunFrames B (env::ol)) (ef:env.frame=some L) (ge:s.heap.get? e=some oe) (st:B.StaysIn s.heap) (ne:B.get? e=none) (dd:oe.data=.fields vs) (sz:1 < vs.size) (v0:vs[0]?=some a0) (v2:vs[2]?=some .none)
  (q:∀h',Heap.NotedW B (env::ol) e oe.cls a0 (rawInt L) s.heap h'->PD e h'->Q () {s with heap:=h'}):
  wpAny M A (do let a<-frameOf env;let pl<-entryPlaceOf L nx;let b<-EntryCells.newEntry hd0 a .none (rawInt L) .none pl;setField (.ref e) 1 b) Q E s:=by
 have notF:e∉(env::ol).filterMap (·.frame):=λm=>by
  obtain⟨_,o,go,nf⟩:=ff.mem m;rw[ge] at go;cases go;exact nf vs dd
 refine wpAny_bind (wpAny_frameOf_fun fr ff ef λk1 z1=>wpAny_bind (wpAny_entryPlaceOf λpl zp=>?_));unfold EntryCells.newEntry newFields;refine wpAny_bind (wpAny_newObj_type ?_ (zp.sizeOk5 _ _ _ _ _));have g1:k1.get? e=some oe:=(z1.2.1 e notF).trans ge;have st1:B.StaysIn k1:=λb o hb=>(z1.2.1 b λm=>by rw[(ff.mem m).1] at hb;cases hb).trans (st b o hb);generalize ho:({cls:=.type "traceback",dict:=none,data:=.fields ([hd0,.ref L,.none,rawInt L,.none]++(if pl.isEmpty then List.replicate 6 Value.none else pl)).toArray}:Obj)=nT;have hdT:nT.data=.fields ([hd0,.ref L,.none,rawInt L,.none]++(if pl.isEmpty then List.replicate 6 Value.none else pl)).toArray:=by rw[<-ho]
 have hfreed:nT.isFreed=false:=Obj.isFreed_of_fields hdT;have g2:(k1.push nT).get? e=some oe:=Heap.get?_push_of_some nT g1;have gT:(k1.push nT).get? k1.objs.size=some nT:=Heap.get?_push_size k1 hfreed;refine wpAny_setField g2 dd sz ?_;have dis:k1.objs.size≠e:=Nat.ne_of_gt (Heap.lt_size g1);have d3:=Obj.data_mapFields dd (·.setIfInBounds 1 (Value.ref k1.objs.size));have g3:=Heap.get?_update_self (Obj.mapFields (·.setIfInBounds 1 (Value.ref k1.objs.size))) g2 (Obj.isFreed_of_fields d3);have gT3:=(Heap.get?_update_other (k1.push nT) (Obj.mapFields (·.setIfInBounds 1 (Value.ref k1.objs.size))) (Ne.symm dis)).trans gT;have kp:∀b o,b≠e->k1.get? b=some o->((k1.push nT).update e (Obj.mapFields (·.setIfInBounds 1 (Value.ref k1.objs.size)))).get? b=some o:=λb o n g=>by
  rw[Heap.get?_update_other _ _ (Ne.symm n)];exact Heap.get?_push_of_some _ g
 have rcd:∀b o,s.heap.get? b=some o->(∀vs,o.data≠.fields vs)->b≠e:=λb o g nf z=>by
  rw[z,ge] at g;cases g;exact nf vs dd
 have t3:([hd0,.ref L,.none,rawInt L,.none]++(if pl.isEmpty then List.replicate 6 Value.none else pl)).toArray[3]?=some (rawInt L):=by simp
 refine q _ ⟨λb o hb=>kp b o (λz=>by rw[z,ne] at hb;cases hb) (st1 b o hb),ff.of_keeps λb o g nf=>?_,⟨_,_,k1.objs.size,nT,_,g3,⟨Obj.cls_mapFields _ _,?_⟩,d3,?_,st1.fresh,dis,gT3,hdT,t3⟩,λb o g nf=>?_⟩ ⟨_,_,g3,d3,?_⟩
 ·obtain⟨sl,hs⟩:=z1.2.2 b o g;exact⟨_,kp b _ (rcd b o g nf) hs,rfl⟩
 ·rw[Array.getElem?_setIfInBounds_ne (by decide)];exact v0
 ·simp[sz]
 ·obtain⟨sl,hs⟩:=z1.2.2 b o g;exact⟨sl,kp b _ (rcd b o g nf) hs⟩
 ·rw[Array.getElem?_setIfInBounds_ne (by decide)];exact v2
theorem EF {B:Heap} {l:List Env} {e:Addr} {cls a0 fl:Value} {Q:Unit->Shared->Prop} (st:B.StaysIn s.heap) (ff:s.heap.FunFrames B l) (tr:s.heap.TracedAtW B e cls a0 fl) (nc:PD e s.heap) (ne:B.get? e=none)
  (q:∀h',Heap.FlyingW B l e cls a0 h'->s.heap.UpToSlots h'->PD e h'->Q () {s with heap:=h'}):wpAny M A (setFlight (.ref e) none) Q E s:=by
 obtain⟨oe,vs,T,oT,ts,ge,hc,dd,v1,nT,dis,gT,dT,t3⟩:=tr;have s3:3 < ts.size:=(Array.getElem?_eq_some_iff.mp t3).1;unfold setFlight;refine wpAny_bind (wpAny_field ge dd v1 ?_);rw[if_pos (show (Value.ref T != Value.none)=true by simp)];have oth:∀b,b≠T->(s.heap.update T (Obj.mapFields (·.setIfInBounds 3 ((none:Option Addr).elim Value.none λf=>rawInt f)))).get? b=s.heap.get? b:=λb n=>Heap.get?_update_other _ _ (Ne.symm n);have rcd:∀b o,s.heap.get? b=some o->(∀vs,o.data≠.fields vs)->b≠T:=λb o g nf z=>by
  rw[z,gT] at g;cases g;exact nf ts dT
 refine wpAny_setField gT dT s3 (q _ ⟨λb o hb=>(oth b λz=>by rw[z,nT] at hb;cases hb).trans (st b o hb),ne,ff.of_keeps λb o g nf=>⟨o,(oth b (rcd b o g nf)).trans g,rfl⟩,?_⟩ (λb o g nf=>⟨o.slots,(oth b (rcd b o g nf)).trans g⟩) ?_)
 ·exact⟨oe,vs,T,_,_,(oth e (Ne.symm dis)).trans ge,hc,dd,v1,nT,dis,Heap.get?_update_self _ gT (Obj.isFreed_of_fields (Obj.data_mapFields dT _)),Obj.data_mapFields dT _,by simp[s3]⟩
 ·obtain⟨o,vs',g,d,v⟩:=nc;exact⟨o,vs',(oth e (Ne.symm dis)).trans g,d,v⟩
theorem zI {B:Heap} {env:Env} {ol:List Env} {L e:Addr} {cls a0:Value} {Q:Unit->Shared->Prop} (fr:A.frames=some (env::ol)) (ef:env.frame=some L) (fl:Heap.FlyingW B (env::ol) e cls a0 s.heap) (nc:PD e s.heap)
  (q:∀h',Heap.HeldW B (env::ol) e cls a0 L h'->s.heap.UpToSlots h'->PD e h'->Q () {s with heap:=h'}):wpAny M A (noteFrame (.ref e) env) Q E s:=by
 obtain⟨st,ne,ff,oe,vs,T,oT,ts,ge,⟨hc,v0⟩,dd,v1,nT,dis,gT,dT,t3⟩:=fl;obtain⟨o',vs',g',d',v2⟩:=nc;rw[ge] at g';cases g';rw[dd] at d';cases d';subst hc;unfold noteFrame;simp only[ef];refine wpAny_bind (wpAny_field ge dd v1 ?_);rw[if_pos (show (Value.ref T != Value.none)=true by simp)];refine wpAny_bind (wpAny_field gT dT t3 ?_);rw[if_neg (show ¬((Value.none == rawInt L)=true) by simp[rawInt])];refine wpAny_bind (wpAny_setField gT dT (Array.getElem?_eq_some_iff.mp t3).1 ?_);have oth:∀b,b≠T->(s.heap.update T (Obj.mapFields (·.setIfInBounds 3 Value.none))).get? b=s.heap.get? b:=λb n=>Heap.get?_update_other _ _ (Ne.symm n);have rcd:∀b o,s.heap.get? b=some o->(∀vs,o.data≠.fields vs)->b≠T:=λb o g nf z=>by
  rw[z,gT] at g;cases g;exact nf ts dT
 refine DF fr (ff.of_keeps λb o g nf=>⟨o,(oth b (rcd b o g nf)).trans g,rfl⟩) ef ((oth e (Ne.symm dis)).trans ge) (λb o hb=>(oth b λz=>by rw[z,nT] at hb;cases hb).trans (st b o hb)) ne dd (Array.getElem?_eq_some_iff.mp v1).1 v0 v2 λh' ⟨x1,x2,x3,x4⟩ nc'=>?_;exact q h' ⟨x1,ne,x2,x3⟩ (λb o g nf=>x4 b o ((oth b (rcd b o g nf)).trans g) nf) nc'
theorem AG {B:Heap} {env:Env} {ol:List Env} {L e:Addr} {cls a0:Value} {Q:Unit->Shared->Prop} (fr:A.frames=some (env::ol)) (ef:env.frame=some L) (fl:Heap.FlyingW B (env::ol) e cls a0 s.heap) (nc:PD e s.heap)
  (q:∀h',Heap.FlyingW B ol e cls a0 h'->s.heap.UpToSlots h'->PD e h'->Q () {s with heap:=h'}):wpAny M A (leaving env (.ref e)) Q E s:=by
 unfold leaving;refine wpAny_bind (zI fr ef fl nc λk ⟨h1,h2,h3,h4⟩ up nk=>?_);refine EF (s:={s with heap:=k}) h1 h3 h4 nk h2 λk' ⟨f1,f2,⟨_,_,f3⟩,f4⟩ up' nk'=>?_;exact q k' ⟨f1,f2,f3,f4⟩ (up.trans up') nk'
theorem cE {B h:Heap} {env:Env} {ol:List Env} {L e:Addr} {cls:Value} {args:List Value} {Q:Unit->Shared->Prop} (fr:A.frames=some (env::ol)) (ef:env.frame=some L) (st:B.StaysIn h) (ff:h.FunFrames B (env::ol)) (mk:Heap.MadeExcOf h s.heap e cls args)
  (q:∀h' t,Heap.FlyingW B ol e cls (.ref t) h'->s.heap.UpToSlots h'->PD e h'->Q () {s with heap:=h'}):wpAny M A (leaving env (.ref e)) Q E s:=by
 obtain⟨t,ge,_,_⟩:=mk.there;have new:∀b,h.get? b=none->B.get? b=none:=λb hb=>by
  cases z:B.get? b with
  |none=>rfl
  |some o=>have:=st b o z;rw[hb] at this;cases this
 unfold leaving noteFrame;simp only[ef];refine wpAny_bind (wpAny_bind (wpAny_field ge rfl (x:=.none) rfl ?_));rw[if_neg (by decide)];refine DF fr (ff.of_keeps λb o hb _=>⟨o,mk.keeps b o hb,rfl⟩) ef ge (λb o hb=>mk.keeps b o (st b o hb)) (new e mk.new) rfl (by simp) (a0:=.ref t) rfl rfl λk ⟨x1,x2,x3,x4⟩ nk=>?_;refine EF (s:={s with heap:=k}) x1 x2 x3 nk (new e mk.new) λk' ⟨f1,f2,⟨_,_,f3⟩,f4⟩ up' nk'=>?_;exact q k' t ⟨f1,f2,f3,f4⟩ (Heap.UpToSlots.trans (λb o g nf=>x4 b o g nf) up') nk'
end
end L2
namespace L2
open PySem PySem.Spec PyProof.Rows
structure CU (B:Heap) (l:List Env) (h:Heap) (H H':Hp) (h':Heap) (ea:Addr) (cls:Value):Prop where
 fl:∃a0,Heap.FlyingW B l ea cls a0 h'
 trk:∀b u,H' b=some u->∃o,B.get? b=some o
 kept:∀b o,h.get? b=some o->H b=none->b∉QB l->B.get? b=some o
 alive:∀b o,h.get? b=some o->b∉QB l->∃o',B.get? b=some o'
 nc:PD ea h'
noncomputable def dE (P:Program) (w:World):CXT:=λouter H s E e s'=>∃ea cls H' B,e=.ref ea/\s'.os=s.os/\AllBare s'.gens/\Un (QB outer) [] H H' s.heap s'.heap/\cC P w H' s'.heap/\CU B outer s.heap H H' s'.heap ea cls/\E cls none H'
noncomputable abbrev XKs:=Value->St->Hp->Prop
noncomputable def XW (X:Cx) (K:XKs):Prop:=∀(pins:List (Addr×Obj)) (σ:St) (H:Hp) (s s':Shared) (ea:Addr) (cls:Value) (H':Hp) (B:Heap),jA X pins σ H s->s'.os=s.os->AllBare s'.gens->
 Un (QB X.stack) [] H H' s.heap s'.heap->cC X.prog X.w H' s'.heap->CU B X.stack s.heap H H' s'.heap ea cls->K cls σ H'->X.xe (.ref ea) s'
theorem DU {env:Env} {l:List Env} {L:Addr} (h:env.frame=some L):QB (env::l)=L::QB l:=by
 unfold QB;rw[List.filterMap_cons,h]
theorem cC.flown {P:Program} {w:World} {H:Hp} {B h h':Heap} (x:cC P w H h) (t:∀b u,H b=some u->∃o,B.get? b=some o) (s:B.StaysIn h) (s':B.StaysIn h'):cC P w H h':=λa o e=>
 (x a o e).stay (λb u hb q=>by
  have hB:∃o,B.get? b=some o:=by
   rcases hb with rfl|hb
   ·exact t _ _ e
   ·exact t _ _ hb
  obtain⟨o',ho⟩:=hB;have e1:=s b o' ho;rw[q] at e1;cases e1;exact s' b _ ho) (λ_ q=>q) λ_ _ q=>q
theorem ZA {P:Program} {w:World} {K:PySem.W.Frag} {mg:Str->Option Value} {base:Heap} {N:List Str} {qual:Str} {scope:Scope} {f:Addr} {cd:Value} {A:Around} {outer:List Env} {s0:Shared} {H0:Hp} {E:XK}:
  XW (RB (dE P w) P w K mg base N qual scope f cd A outer s0 H0 E) (λc _ H'=>E c none H'):=by
 intro pins σ H s s' ea cls H' B I os bare un hok fly hK;have I':=I.call' (s':=s') (ch:=[]) os un hok bare (λb z=>absurd z (by simp));have hfr:=I.ok.frames;have hstk:(RB (dE P w) P w K mg base N qual scope f cd A outer s0 H0 E).stack=envOfC qual scope s0.heap.objs.size f cd::outer:=rfl;rw[hstk] at hfr;obtain⟨a0,hfl⟩:=fly.fl;have hf:(envOfC qual scope s0.heap.objs.size f cd).frame=some s0.heap.objs.size:=rfl;show wpAny _ _ (leaving (envOfC qual scope s0.heap.objs.size f cd) (.ref ea)) _ _ s';refine AG hfr hf hfl fly.nc λh' fl' up nc'=>?_;have hfs:QB (envOfC qual scope s0.heap.objs.size f cd::outer)=s0.heap.objs.size::QB outer:=DU hf;have nf:∀b o,s0.heap.get? b=some o->b∉QB outer->b∉QB (envOfC qual scope s0.heap.objs.size f cd::outer):=λb o e n z=>by
  rw[hfs] at z;rcases List.mem_cons.mp z with z|z
  ·exact absurd (Heap.lt_size e) (by rw[z];exact Nat.lt_irrefl _)
  ·exact n z
 have stay:∀b o,s0.heap.get? b=some o->H0 b=none->b∉QB outer->B.get? b=some o:=λb o e n hb=>
  fly.kept b o (I.base.keep b o e n hb (by intro z;exact absurd z (by simp[RB]))) (I.base.free b o e n (by intro z;exact absurd z (by simp[RB]))) (nf b o e hb)
 have wB:∀b o,s0.heap.get? b=some o->b∉QB outer->∃o',B.get? b=some o':=λb o e hb=>by
  obtain⟨o1,e1⟩:=I.base.there b o e (by intro z;exact absurd z (by simp[RB]));exact fly.alive b o1 e1 (nf b o e hb)
 refine⟨ea,cls,H',B,rfl,I'.os,bare,?_,hok.flown fly.trk hfl.1 fl'.1,⟨⟨a0,fl'⟩,fly.trk,stay,wB,nc'⟩,hK⟩;have noA:∀b:Addr,b∉(RB (dE P w) P w K mg base N qual scope f cd A outer s0 H0 E).ex:=λb z=>absurd z (by simp[RB]);have slotOf:∀b,b∈QB outer->∀o,s'.heap.get? b=some o->∃sl,h'.get? b=some {o with slots:=sl}:=λb hb o e=>by
  have hm:b∈QB (envOfC qual scope s0.heap.objs.size f cd::outer):=by rw[hfs];exact List.mem_cons_of_mem _ hb
  obtain⟨_,o',ho',hd⟩:=hfl.2.2.1.mem hm;rw[e] at ho';cases ho';exact up b o e hd
 refine⟨λb o e n hb _=>fl'.1 b o (stay b o e n hb),λb o e n hb _=>?_,λb o e n _=>I'.base.free b o e n (noA b),λb o e _=>?_,I'.base.tups,I'.base.frzs,I'.base.tbls⟩
 ·obtain⟨sl,e1⟩:=I'.base.slot b o e n hb (noA b);obtain⟨sl',e2⟩:=slotOf b hb _ e1;exact⟨sl',e2⟩
 ·by_cases hb:b∈QB outer
  ·obtain⟨o1,e1⟩:=I'.base.there b o e (noA b);obtain⟨sl,e2⟩:=slotOf b hb _ e1;exact⟨_,e2⟩
  ·obtain⟨o1,e1⟩:=wB b o e hb;exact⟨o1,fl'.1 b o1 e1⟩
noncomputable def HC (P:Program) (w:World) (K:PySem.W.Frag) (mg:Str->Option Value) (base:Heap) (x:Str) (k:Nat) (ps:List Str) (dvs:List V) (sp:Sp):Prop:=
 ∃f fd ds,mg x=some (.ref f)/\PySem.W.keepIn K (.ref f)=true/\VB K fd ps ds/\pA dvs ds/\zC P w K mg base (dE P w) k f fd ps sp
noncomputable def FA (P:Program) (w:World) (K:PySem.W.Frag) (mg:Str->Option Value) (base:Heap) (C:Addr) (m:Str) (k:Nat) (ps:List Str) (dvs:List V) (sp:Sp):Prop:=
 ∃f fd ds,xE K C m f/\VB K fd ps ds/\pA dvs ds/\zC P w K mg base (dE P w) k f fd ps sp
noncomputable def BD (P:Program) (w:World) (K:PySem.W.Frag) (mg:Str->Option Value) (base:Heap) (x:Str) (C:Addr) (k:Nat) (ps:List Str) (dvs:List V) (sp:Sp):Prop:=
 ∃f fd ds,mg x=some (.ref C)/\Mk K C f/\VB K fd ps ds/\pA dvs ds/\zC P w K mg base (dE P w) k f fd ps sp
noncomputable def FF (Kx:XKs) (sp:Sp) (dvs:List V) (t:TA):TE:=λσ H Q=>t σ H λvs H1=>sp (vs++dvs) H1 Q (λc _ H'=>Kx c σ H')
noncomputable def BE (Kx:XKs) (C:Addr) (m:Str) (sp:Sp) (dvs:List V) (ta:TE) (t:TA):TE:=λσ H Q=>ta σ H λx H1=>∃a dx fs,x=.ref a/\H1 a=some (.ins C dx fs)/\fs.lookup m=none/\
 t σ H1 λvs H2=>sp (x::(vs++dvs)) H2 Q (λc _ H'=>Kx c σ H')
noncomputable def HF (Kx:XKs) (C:Addr) (sp:Sp) (dvs:List V) (t:TA):TE:=λσ H Q=>t σ H λvs H1=>∀x dx,H1 x=none->H1 dx=none->dx≠x->
 sp (.ref x::(vs++dvs)) (upd (upd H1 dx (.own x)) x (.ins C dx [])) (λv H2=>v=.non/\Q (.ref x) H2) (λc _ H'=>Kx c σ H')
section
variable {X:Cx} {Kx:XKs} {k:Nat} {f C:Addr} {fd:FuncData} {ps:List Str} {sp:Sp} {dvs:List V} {ds:List Value} {x m:Str} {p pos apos:Pos} {e o:Expr} {es:List Expr} {ta:TE} {t:TA}
theorem CO {pins:List (Addr×Obj)} {σ:St} {H:Hp} {s:Shared} {Q:VK} {us:List Value} {vs:List V} (F:zC X.prog X.w X.K X.mg X.base (dE X.prog X.w) k f fd ps sp) (hr:rB k X.A) (hb:VB X.K fd ps ds) (hd:pA dvs ds) (hx:XW X Kx)
  (I:jA X pins σ H s) (r:pA vs us) (h:sp (vs++dvs) H Q (λc _ H'=>Kx c σ H')):wpAny (model X.prog X.w) X.A (call (.ref f) us) (EP X pins σ Q) X.xe s:=by
 have r2:pA (vs++dvs) (us++ds):=r.append hd;have hl:(us++ds).length=ps.length:=by rw[<-r2.length];exact F.len _ _ _ _ h
 refine wpAny_call (codeAny_mono (F.run X.A X.stack s H ⟨us,[]⟩ (us++ds) (vs++dvs) Q _ hr I.env0 (hb s us I.kIn hl) r2 h) λr s' hq=>?_);cases r with
 |error e=>
  obtain⟨ea,cls,H',B,rfl,os,bare,un,hok,fly,hK⟩:=hq;exact hx pins σ H s s' ea cls H' B I os bare un hok fly hK
 |ok fl=>
  cases fl with
  |ret u=>exact I.after hq
  |next=>exact False.elim hq
  |brk=>exact False.elim hq
  |cont=>exact False.elim hq
theorem pC (F:HC X.prog X.w X.K X.mg X.base x k ps dvs sp) (hr:rB k X.A) (hx:XW X Kx) (ha:PA X (e::es) t) (hg:Gl X x:=by rfl) (hdb:(x == ("__debug__":Str))=false:=by decide)
  (he:starEach (e::es) X.env=(false,eval e X.env)::starEach es X.env:=by rfl) (hpl:(backTo pos (starEach es X.env)).any (·.1)=false:=by rfl):
  PE X (.Call (.Name x p) (e::es) [] pos) (FF Kx sp dvs t):=by
 obtain⟨f,fd,ds,hm,hk,hb,hd,F⟩:=F;intro pins s σ H Q I h;refine wpAny_Call_Name_kw (eO I hg hm ?_ hdb);refine PySem.W.callWith_K (h₀:=X.base) I.ok.mod.kin hk (YA (ha pos pins s σ H _ I h) λus s1 ⟨vs,H1,I1,r,q⟩=>⟨I1.kIn,?_⟩) he hpl;exact CO F hr hb hd hx I1 r q
theorem QD {pl:Sem Bool} (ho:PE X o ta) (c:rE X.K C) (F:FA X.prog X.w X.K X.mg X.base C m k ps dvs sp) (hr:rB k X.A) (hx:XW X Kx) (ha:PA X (e::es) t)
  (hst:starEach (e::es) X.env=(false,eval e X.env)::starEach es X.env:=by rfl) (hpl:(backTo pos (starEach es X.env)).any (·.1)=false:=by rfl)
  (ht:eval (.Call (.Attribute o m apos) (e::es) [] pos) X.env=(do
   let ov<-eval o X.env
   standAt apos.atName
   let (f,first)<-holding [ov] (getMethod ov m pl)
   callWith pos f first (backTo pos (starEach (e::es) X.env)) (backToKw pos (keywordEach [] X.env))):=by rfl):
  PE X (.Call (.Attribute o m apos) (e::es) [] pos) (BE Kx C m sp dvs ta t):=by
 obtain⟨f,fd,ds,hm,hb,hd,F⟩:=F;intro pins s σ H Q I h;refine PySem.W.methodCall_KW (pl:=pl) (YA (ho pins s σ H _ I h) λu s1 ⟨x,H1,I1,rx,a,dx,fs,ex,ea,l,q⟩=>?_) ht;subst ex;obtain rfl:u=Value.ref a:=rx;refine hU I1 ea c hm l ?_;refine PySem.W.callWith_K (first:=[.ref a]) (h₀:=X.base) I.ok.mod.kin hm.kp (YA (ha pos pins s1 σ H1 _ I1 q) λus s2 ⟨vs,H2,I2,r,q2⟩=>⟨I2.kIn,?_⟩) hst hpl;exact CO (us:=.ref a::us) (vs:=.ref a::vs) F hr hb hd hx I2 (.cons rfl r) q2
theorem vD {pl:Sem Bool} (ho:PE X o ta) (c:rE X.K C) (F:FA X.prog X.w X.K X.mg X.base C m k ps dvs sp) (hr:rB k X.A) (hx:XW X Kx)
  (ht:eval (.Call (.Attribute o m apos) [] [] pos) X.env=(do
   let ov<-eval o X.env
   standAt apos.atName
   let (f,first)<-holding [ov] (getMethod ov m pl)
   callWith pos f first (backTo pos (starEach [] X.env)) (backToKw pos (keywordEach [] X.env))):=by rfl):
  PE X (.Call (.Attribute o m apos) [] [] pos) (BE Kx C m sp dvs ta tNil):=by
 obtain⟨f,fd,ds,hm,hb,hd,F⟩:=F;intro pins s σ H Q I h;refine PySem.W.methodCall_KW (pl:=pl) (YA (ho pins s σ H _ I h) λu s1 ⟨x,H1,I1,rx,a,dx,fs,ex,ea,l,q⟩=>?_) ht;subst ex;obtain rfl:u=Value.ref a:=rx;refine hU I1 ea c hm l ?_;exact PySem.W.callWith_K0 (first:=[.ref a]) I1.kIn hm.kp (CO (us:=[.ref a]) (vs:=[.ref a]) F hr hb hd hx I1 (.cons rfl .nil) q)
theorem YX {pins:List (Addr×Obj)} {σ:St} {H:Hp} {s:Shared} {Q:VK} {us:List Value} {vs:List V} (M:Mk X.K C f) (F:zC X.prog X.w X.K X.mg X.base (dE X.prog X.w) k f fd ps sp) (hr:rB (k+1) X.A) (hb:VB X.K fd ps ds) (hd:pA dvs ds)
  (hx:XW X Kx) (I:jA X pins σ H s) (r:pA vs us)
  (h:∀x dx,H x=none->H dx=none->dx≠x->sp (.ref x::(vs++dvs)) (upd (upd H dx (.own x)) x (.ins C dx [])) (λv H2=>v=.non/\Q (.ref x) H2) (λc _ H'=>Kx c σ H')):
  wpAny (model X.prog X.w) X.A (call (.ref C) us) (EP X pins σ Q) X.xe s:=by
 have hq:=h (s.heap.objs.size+1) s.heap.objs.size (I.hok.fresh (Nat.le_succ _)) (I.hok.fresh (Nat.le_refl _)) (Nat.ne_of_lt (Nat.lt_succ_self _));have I2:=jA.made (C:=C) I;have r2:pA (V.ref (s.heap.objs.size+1)::(vs++dvs)) (Value.ref (s.heap.objs.size+1)::(us++ds)):=.cons rfl (r.append hd);have hl:(Value.ref (s.heap.objs.size+1)::us++ds).length=ps.length:=by
  have e:=r2.length;rw[F.len _ _ _ _ hq] at e;exact e.symm
 refine wpAny_call (xX (f:=f) I.kIn M.makes M.init (beq_iff_eq.mp M.fn) (codeAny_mono (F.run _ X.stack _ _ ⟨Value.ref (s.heap.objs.size+1)::us,[]⟩ (Value.ref (s.heap.objs.size+1)::(us++ds)) _ _ _ (hr.make C us [])
  (I2.env0.make C us []) (hb _ (Value.ref (s.heap.objs.size+1)::us) I2.kIn hl) r2 hq) λr s' hq'=>?_))
 cases r with
 |error e=>
  obtain⟨ea,cls,H',B,rfl,os,bare,un,hok,fly,hK⟩:=hq';exact hx pins σ _ _ s' ea cls H' B I2 os bare un hok fly hK
 |ok fl=>
  cases fl with
  |ret u=>
   obtain⟨v,H',I3,rv,ev,q3⟩:=I2.after hq';subst ev;exact⟨rv,⟨V.ref (s.heap.objs.size+1),H',I3,rfl,q3⟩⟩
  |next=>exact False.elim hq'
  |brk=>exact False.elim hq'
  |cont=>exact False.elim hq'
theorem VM (F:BD X.prog X.w X.K X.mg X.base x C k ps dvs sp) (hr:rB (k+1) X.A) (hx:XW X Kx) (ha:PA X (e::es) t) (hg:Gl X x:=by rfl) (hdb:(x == ("__debug__":Str))=false:=by decide)
  (he:starEach (e::es) X.env=(false,eval e X.env)::starEach es X.env:=by rfl) (hpl:(backTo pos (starEach es X.env)).any (·.1)=false:=by rfl):
  PE X (.Call (.Name x p) (e::es) [] pos) (HF Kx C sp dvs t):=by
 obtain⟨f,fd,ds,hm,M,hb,hd,F⟩:=F;intro pins s σ H Q I h;refine wpAny_Call_Name_kw (eO I hg hm ?_ hdb);refine PySem.W.callWith_K (h₀:=X.base) I.ok.mod.kin M.kp (YA (ha pos pins s σ H _ I h) λus s1 ⟨vs,H1,I1,r,q⟩=>⟨I1.kIn,?_⟩) he hpl;exact YX M F hr hb hd hx I1 r q
theorem JF {n:String} (hg:Gl X x) (hm:X.mg x=none) (hv:bootBuiltins x=some (.type n)) (hn:x≠"__name__":=by decide) (hd:(x == ("__debug__":Str))=false:=by decide):PE X (.Name x pos) (tC (.ty n)):=lX hg hm hv rfl hn hd
end
noncomputable def DE (K:PySem.W.Frag) (mg:Str->Option Value) (x qual:Str) (st:Stmt) (ps:List Str) (dvs:List V):Prop:=∃f fd ds,mg x=some (.ref f)/\AE K x qual st f fd/\VB K fd ps ds/\pA dvs ds
noncomputable def sB (K:PySem.W.Frag) (C:Addr) (m qual:Str) (st:Stmt) (ps:List Str) (dvs:List V):Prop:=∃f fd ds,xE K C m f/\AE K m qual st f fd/\VB K fd ps ds/\pA dvs ds
noncomputable def cF (K:PySem.W.Frag) (mg:Str->Option Value) (x:Str) (C:Addr) (qual:Str) (st:Stmt) (ps:List Str) (dvs:List V):Prop:=∃f fd ds,mg x=some (.ref C)/\Mk K C f/\AE K "__init__" qual st f fd/\VB K fd ps ds/\pA dvs ds
section
variable {P:Program} {w:World} {K:PySem.W.Frag} {mg:Str->Option Value} {base:Heap}
noncomputable def RD (P:Program) (w:World) (K:PySem.W.Frag) (mg:Str->Option Value) (base:Heap) (qual:Str) (st:Stmt) (N:List Str) (k:Nat) (sp:Sp):Prop:=
 ∀(f:Addr) (cdv:Value) (A:Around) (outer:List Env) (s:Shared) (H:Hp) (vs:List V) (Q:VK) (E:XK),rB k (A.deeper (envOfC qual (bA st) s.heap.objs.size f cdv))->sp vs H Q E->
  ∃t,WD (RB (dE P w) P w K mg base N qual (bA st) f cdv A outer s H E) (RA st) t/\t {nx:=λ_ H'=>Q .non H',rt:=Q} (nC N vs) H
theorem AE.okE {x qual:Str} {st:Stmt} {f:Addr} {fd:FuncData} {N ps:List Str} {k:Nat} {sp:Sp} (F:AE K x qual st f fd) (S:fA N ps (bA st)) (len:∀vs H Q E,sp vs H Q E->vs.length=ps.length)
  (hbody:RD P w K mg base qual st N k sp):zC P w K mg base (dE P w) (k+1) f fd ps sp:=by
 obtain⟨oc,od,kV,doc,pm,an,cdv,ct,osl,rfl,lk,hcd⟩:=F.ex;exact oO lk hcd S len λA outer s H vs Q E hr hsp=>hbody f cdv A outer s H vs Q E hr hsp
theorem DE.have {x qual:Str} {st:Stmt} {N ps:List Str} {dvs:List V} {k:Nat} {sp:Sp} (R:DE K mg x qual st ps dvs) (S:fA N ps (bA st)) (len:∀vs H Q E,sp vs H Q E->vs.length=ps.length)
  (hbody:RD P w K mg base qual st N k sp):HC P w K mg base x (k+1) ps dvs sp:=
 let ⟨f,fd,ds,hm,F,hb,hd⟩:=R
 ⟨f,fd,ds,hm,F.kp,hb,hd,F.okE S len hbody⟩
theorem sB.have {C:Addr} {m qual:Str} {st:Stmt} {N ps:List Str} {dvs:List V} {k:Nat} {sp:Sp} (R:sB K C m qual st ps dvs) (S:fA N ps (bA st)) (len:∀vs H Q E,sp vs H Q E->vs.length=ps.length)
  (hbody:RD P w K mg base qual st N k sp):FA P w K mg base C m (k+1) ps dvs sp:=
 let ⟨f,fd,ds,hm,F,hb,hd⟩:=R
 ⟨f,fd,ds,hm,hb,hd,F.okE S len hbody⟩
theorem cF.have {C:Addr} {x qual:Str} {st:Stmt} {N ps:List Str} {dvs:List V} {k:Nat} {sp:Sp} (R:cF K mg x C qual st ps dvs) (S:fA N ps (bA st)) (len:∀vs H Q E,sp vs H Q E->vs.length=ps.length)
  (hbody:RD P w K mg base qual st N k sp):BD P w K mg base x C (k+1) ps dvs sp:=
 let ⟨f,fd,ds,hm,M,F,hb,hd⟩:=R
 ⟨f,fd,ds,hm,M,hb,hd,F.okE S len hbody⟩
end
end L2
namespace L2
open PySem PySem.Spec PyProof.Rows
noncomputable def XR (X:Cx) (K:XKs):Prop:=∀(pins:List (Addr×Obj)) (σ:St) (H:Hp) (s:Shared) (h':Heap) (e:Addr) (cls:Value) (args:List Value),jA X pins σ H s->Heap.MadeExcOf s.heap h' e cls args->K cls σ H->X.xe (.ref e) {s with heap:=h'}
theorem cC.alive {P:Program} {w:World} {H:Hp} {h:Heap} (x:cC P w H h) {b:Addr} {u:HO} (e:H b=some u):∃o,h.get? b=some o:=by
 have q:=x b u e;cases u with
 |lst xs=>obtain⟨_,_,_,_,e⟩:=q;exact⟨_,e⟩
 |tup xs=>obtain⟨_,_,_,⟨o,e,_⟩⟩:=q;exact⟨_,e⟩
 |dK kvs=>obtain⟨_,_,_,_,o,_,_,e,_⟩:=q;exact⟨_,e⟩
 |dT kvs=>obtain⟨_,_,_,_,o,_,_,e,_⟩:=q;exact⟨_,e⟩
 |set S n=>obtain⟨o,_,_,_,e,_⟩:=q;exact⟨_,e⟩
 |ins C dx fs=>obtain⟨_,_,_,e,_⟩:=q;exact⟨_,e⟩
 |own y=>exact q
 |xd fs=>obtain⟨_,⟨_,_,_,e,_⟩,_⟩:=q;exact⟨_,e⟩
 |rng lo hi=>obtain⟨_,_,_,e⟩:=q;exact⟨_,e⟩
 |frz ob u=>obtain⟨e,_⟩:=q;exact⟨_,e⟩
 |tbl ps=>exact⟨_,q⟩
 |met f y=>exact⟨_,q⟩
 |ext φ=>obtain⟨_,e,_⟩:=q;exact e
theorem AI {P:Program} {w:World} {K:PySem.W.Frag} {mg:Str->Option Value} {base:Heap} {N:List Str} {qual:Str} {scope:Scope} {f:Addr} {cd:Value} {A:Around} {outer:List Env} {s0:Shared} {H0:Hp} {E:XK}:
  XR (RB (dE P w) P w K mg base N qual scope f cd A outer s0 H0 E) (λc _ H'=>E c none H'):=by
 intro pins σ H s h1 ea cls args I mk hK;have hfr:=I.ok.frames;have hstk:(RB (dE P w) P w K mg base N qual scope f cd A outer s0 H0 E).stack=envOfC qual scope s0.heap.objs.size f cd::outer:=rfl;have hfun:=I.stack;have hfree:=I.stkFree;rw[hstk] at hfr hfun hfree;have hf:(envOfC qual scope s0.heap.objs.size f cd).frame=some s0.heap.objs.size:=rfl;have hfs:QB (envOfC qual scope s0.heap.objs.size f cd::outer)=s0.heap.objs.size::QB outer:=DU hf;have noA:∀b:Addr,b∉(RB (dE P w) P w K mg base N qual scope f cd A outer s0 H0 E).ex:=λb z=>absurd z (by simp[RB]);have nf:∀b o,s0.heap.get? b=some o->b∉QB outer->b∉QB (envOfC qual scope s0.heap.objs.size f cd::outer):=λb o e n z=>by
  rw[hfs] at z;rcases List.mem_cons.mp z with z|z
  ·exact absurd (Heap.lt_size e) (by rw[z];exact Nat.lt_irrefl _)
  ·exact n z
 show wpAny _ _ (leaving (envOfC qual scope s0.heap.objs.size f cd) (.ref ea)) _ _ _;refine cE (B:=PySem.W.hideAll s.heap (QB (envOfC qual scope s0.heap.objs.size f cd::outer))) (h:=s.heap) hfr hf (λb o q=>PySem.W.of_hideAll _ q)
  (PySem.W.funFrames_hide hfun λenv he b hb=>List.mem_filterMap.mpr ⟨env,he,hb⟩) mk λh' t fl' up nc'=>?_
 have inB:∀b o,s.heap.get? b=some o->b∉QB (envOfC qual scope s0.heap.objs.size f cd::outer)->(PySem.W.hideAll s.heap (QB (envOfC qual scope s0.heap.objs.size f cd::outer))).get? b=some o:=λb o e n=>PySem.W.hideAll_get _ e n;have stay:∀b o,s0.heap.get? b=some o->H0 b=none->b∉QB outer->(PySem.W.hideAll s.heap (QB (envOfC qual scope s0.heap.objs.size f cd::outer))).get? b=some o:=λb o e n hb=>
  inB b o (I.base.keep b o e n hb (noA b)) (nf b o e hb)
 have wB:∀b o,s0.heap.get? b=some o->b∉QB outer->∃o',(PySem.W.hideAll s.heap (QB (envOfC qual scope s0.heap.objs.size f cd::outer))).get? b=some o':=λb o e hb=>by
  obtain⟨o1,e1⟩:=I.base.there b o e (noA b);exact⟨o1,inB b o1 e1 (nf b o e hb)⟩
 have trk:∀b u,H b=some u->∃o,(PySem.W.hideAll s.heap (QB (envOfC qual scope s0.heap.objs.size f cd::outer))).get? b=some o:=λb u e=>by
  obtain⟨o,ho⟩:=I.hok.alive e;exact⟨o,inB b o ho λz=>by rw[hfree b z] at e;cases e⟩
 have slotOf:∀b,b∈QB outer->∀o,s.heap.get? b=some o->∃sl,h'.get? b=some {o with slots:=sl}:=λb hb o e=>by
  have hm:b∈QB (envOfC qual scope s0.heap.objs.size f cd::outer):=by rw[hfs];exact List.mem_cons_of_mem _ hb
  obtain⟨_,o',ho',hd⟩:=hfun.mem hm;rw[e] at ho';cases ho';exact up b o (mk.keeps b o e) hd
 refine⟨ea,cls,H,_,rfl,I.os,I.bare,?_,I.hok.flown trk (λb o q=>PySem.W.of_hideAll _ q) fl'.1,⟨⟨_,fl'⟩,trk,stay,wB,nc'⟩,hK⟩;refine⟨λb o e n hb _=>fl'.1 b o (stay b o e n hb),λb o e n hb _=>?_,λb o e n _=>I.base.free b o e n (noA b),λb o e _=>?_,I.base.tups,I.base.frzs,I.base.tbls⟩
 ·obtain⟨sl,e1⟩:=I.base.slot b o e n hb (noA b);obtain⟨sl',e2⟩:=slotOf b hb _ e1;exact⟨sl',e2⟩
 ·by_cases hb:b∈QB outer
  ·obtain⟨o1,e1⟩:=I.base.there b o e (noA b);obtain⟨sl,e2⟩:=slotOf b hb _ e1;exact⟨_,e2⟩
  ·obtain⟨o1,e1⟩:=wB b o e hb;exact⟨o1,fl'.1 b o1 e1⟩
abbrev iH:List Value:=[.type "ValueError",.type "Exception",.type "BaseException",.type "object"]
structure XC (K:PySem.W.Frag) (mg:Str->Option Value) (x:Str) (C:Addr):Prop where
 m:mg x=some (.ref C)
 ex:PySem.W.excIn K C iH "ValueError.__new__"=true
theorem ZX {K:PySem.W.Frag} {h:Heap} {C:Addr} {l:List Value} {id:String} (hin:K.In h) (q:PySem.W.excIn K C l id=true):
  ∃bm N nm qn bs hdct sn sub ab col dd k0 k1 k2 k3 k5 mN,h.get? C=some (excClassObj nm qn C N bs bm hdct sn sub ab col dd k0 k1 k2 k3 k5 id)/\h.Ns N mN/\mN "__init__"=none/\OwnTail h l bm:=by
 unfold PySem.W.excIn at q
 split at q
 case h_2=>cases q
 case h_1 dd cd sl ho=>
  split at q
  case h_2=>cases q
  case h_1 C' bm k0 k1 k2 k3 n k5 hm hs=>
   rw[Bool.and_eq_true,Bool.and_eq_true,Bool.and_eq_true,Bool.and_eq_true,Bool.and_eq_true] at q;obtain⟨⟨⟨⟨⟨q1,q2⟩,q3⟩,q4⟩,q5⟩,q6⟩:=q;have e1:=beq_iff_eq.mp q1;have e2:=beq_iff_eq.mp q2;have e6:=beq_iff_eq.mp q6;subst e1 e2;obtain⟨nm,bs,mro,ns,qn,hd,sn,sub,ab,col,del⟩:=cd;have e3:del=false:=by
    cases del with
    |false=>rfl
    |true=>cases q3
   have hm':mro=.ref C'::bm:=hm;subst e3 hm';obtain⟨l'⟩:=sl;have hs':l'=[k0,k1,k2,k3,some (.builtin n),k5]:=hs;subst hs';exact⟨bm,ns,nm,qn,bs,hd,sn,sub,ab,col,dd,k0,k1,k2,k3,k5,_,hin _ _ ho,.of_isNs (PySem.W.isNs_of_in hin q5),PySem.W.nsMap_none_of_in hin q5 e6,PySem.W.tail_of_in hin q4⟩
noncomputable def KF (Kx:XKs) (C:Addr) (t:TA):TS:=λ_ σ H=>t σ H λvs H1=>vs.length<=sizeLine/\Kx (.ref C) σ H1
theorem aY {X:Cx} {Kx:XKs} {C:Addr} {x:Str} {np cpos pos:Pos} {e:Expr} {es:List Expr} {t:TA} (hx:XR X Kx) (hc:X.calm=true) (c:XC X.K X.mg x C) (ha:PA X (e::es) t) (hg:Gl X x:=by rfl) (hd:(x == ("__debug__":Str))=false:=by decide)
  (he:starEach (e::es) X.env=(false,eval e X.env)::starEach es X.env:=by rfl) (hpl:(backTo cpos (starEach es X.env)).any (·.1)=false:=by rfl):
  PS X (.Raise (some (.Call (.Name x np) (e::es) [] cpos)) none pos) (KF Kx C t):=by
 intro pins s σ H D I h;obtain⟨bm,N,nm,qn,bs,hdct,sn,sub,ab,col,dd,k0,k1,k2,k3,k5,mN,hC,hN,hni,T⟩:=ZX I.mod.kin c.ex;refine wpAny_Raise_call_subT (C:=C) (nm:=nm) (q:=qn) (N:=N) (bs:=bs) (bm:=bm) (hdct:=hdct) (sn:=sn) (sub:=sub) (ab:=ab) (col:=col) (dd:=dd) (k0:=k0) (k1:=k1) (k2:=k2) (k3:=k3) (k5:=k5) (mN:=mN) PySem.F.excBase_ValueError (T.hasType PySem.F.excBase_ValueError.hasBase) (I.ok.hd hc) (by rw[he];show (false || (backTo cpos (starEach es X.env)).any (·.1))=false;rw[hpl];rfl) hni
  (eO I hg c.m ⟨rfl,?_⟩ hd)
 have q:=ha cpos pins s σ H _ I h;rw[he] at q ⊢;refine Calls.evalArgs_plain (wpAny_mono q (λus s2 hq=>?_) λ_ _ y=>y);obtain⟨vs,H1,I1,r,hl,hk⟩:=hq;exact⟨rfl,by rw[<-r.length];exact hl,I1.bk _ _ hC,hN.keeps I1.bk,T.keeps I1.bk,λh' ea mk=>hx pins σ H1 s2 h' ea (.ref C) us I1 mk hk⟩
end L2
namespace L2
open PySem PySem.Spec PyProof.Rows
noncomputable def bD:Option HO->String
 |some (.lst _)=>"list"
 |some (.frz _ (.lst _))=>"list"
 |some (.tup _)=>"tuple"
 |some (.dK _)=>"dict"
 |some (.dT _)=>"dict"
 |_=>""
noncomputable def kd (H:Hp):V->String
 |.non=>"NoneType"
 |.bl _=>"bool"
 |.int _=>"int"
 |.str _=>"str"
 |.ref a=>bD (H a)
 |_=>""
noncomputable def Kn (H:Hp) (x:V):Prop:=kd H x≠""
noncomputable def EE (n:String) (H:Hp) (x:V):Bool:=kd H x == n || (kd H x == "bool"&&n == "int")
theorem iL {K:PySem.W.Frag} {H:Hp} {x:V} (h:Kn H x):GC K H x (.type (kd H x)):=by
 cases x with
 |non=>exact .non
 |bl b=>exact .bl b
 |int i=>exact .int i
 |str s=>exact .str s
 |ref a=>
  have h:bD (H a)≠"":=h;show GC K H (.ref a) (.type (bD (H a)));cases e:H a with
  |none=>rw[e] at h;exact absurd rfl h
  |some o=>
   rw[e] at h;cases o with
   |lst xs=>exact .lst e
   |tup xs=>exact .tup e
   |dK k=>exact .dK e
   |dT k=>exact .dT e
   |frz ob u=>
    cases u with
    |lst xs=>exact .frz e
    |_=>exact absurd rfl h
   |_=>exact absurd rfl h
 |_=>exact absurd rfl h
theorem bY (o:Option HO):bD o=""\/bD o="list"\/bD o="tuple"\/bD o="dict":=by
 unfold bD
 split<;>simp
theorem Kn.cases {H:Hp} {x:V} (h:Kn H x):kd H x="NoneType"\/kd H x="bool"\/kd H x="int"\/kd H x="str"\/kd H x="list"\/kd H x="tuple"\/kd H x="dict":=by
 cases x with
 |ref a=>
  have h:bD (H a)≠"":=h;show bD (H a)=_\/bD (H a)=_\/bD (H a)=_\/bD (H a)=_\/bD (H a)=_\/bD (H a)=_\/bD (H a)=_;rcases bY (H a) with e|e|e|e
  ·exact absurd e h
  ·exact .inr (.inr (.inr (.inr (.inl e))))
  ·exact .inr (.inr (.inr (.inr (.inr (.inl e)))))
  ·exact .inr (.inr (.inr (.inr (.inr (.inr e)))))
 |non=>exact .inl rfl
 |bl b=>exact .inr (.inl rfl)
 |int i=>exact .inr (.inr (.inl rfl))
 |str z=>exact .inr (.inr (.inr (.inl rfl)))
 |_=>exact absurd rfl h
theorem cY (K:PySem.W.Frag):∀k∈["NoneType","bool","int","str","list","tuple","dict"],∀n∈["bool","int","str","list","tuple","dict"],PySem.W.kitOne K (.type k) (.type n)=some (k == n || (k == "bool"&&n == "int")):=by
 have e:∀k∈["NoneType","bool","int","str","list","tuple","dict"],∀n∈["bool","int","str","list","tuple","dict"],(if (Value.type k == Value.type n)=true then some true else if PySem.W.kitMeta n=true then (fastBuiltinMro k).map (·.contains (.type n)) else none)=some (k == n || (k == "bool"&&n == "int")):=∅;exact λk hk n hn=>e k hk n hn
theorem LF {X:Cx}:lC X (.builtin "isinstance") (λxs H Q=>∃x n,xs=[x,.ty n]/\n∈["bool","int","str","list","tuple","dict"]/\Kn H x/\Q (.bl (EE n H x)) H):=by
 intro pins s σ H xs us Q I r h;obtain⟨x,n,rfl,hn,hk,q⟩:=h;cases r with
 |cons r1 rr=>
  cases rr with
  |cons r2 rr=>
   cases rr;cases r2;refine EX I r1 (iL hk) (cY X.K _ ?_ n hn) λtk=>⟨.bl _,H,I.tok tk,rfl,q⟩
   rcases hk.cases with e|e|e|e|e|e|e<;>rw[e]<;>simp
end L2
namespace L2
open PySem PySem.Spec PyProof.Rows
theorem BI {H:Hp} {i:Int}:Kn H (.int i)↔True:=⟨λ_=>trivial,λ_=>(by decide:"int"≠"")⟩
theorem jL {H:Hp} {i:Bool}:Kn H (.bl i)↔True:=⟨λ_=>trivial,λ_=>(by decide:"bool"≠"")⟩
theorem CI {H:Hp} {i:Str}:Kn H (.str i)↔True:=⟨λ_=>trivial,λ_=>(by decide:"str"≠"")⟩
theorem fK {H:Hp} {a:Addr} {xs:List V} (h:H a=some (.lst xs)):Kn H (.ref a):=λz=>by
 have z:bD (H a)="":=z;rw[h] at z;exact absurd z (show "list"≠"" by decide)
theorem gK {H:Hp} {a:Addr} {xs:List V} (h:H a=some (.tup xs)):Kn H (.ref a):=λz=>by
 have z:bD (H a)="":=z;rw[h] at z;exact absurd z (show "tuple"≠"" by decide)
theorem DI {CX:CXT} {P:Program} {w:World} {K:PySem.W.Frag} {mg:Str->Option Value} {base:Heap} {N:List Str} {qual:Str} {scope:Scope} {f:Addr} {cd:Value} {A:Around} {outer:List Env} {s:Shared} {H:Hp} {E:XK}:
 (RB CX P w K mg base N qual scope f cd A outer s H E).K=K:=rfl
noncomputable def eE:V->Bool
 |.int _=>true
 |_=>false
noncomputable def within (x:V) (l h:Int):Bool:=match x with
 |.int i=>decide (l<=i)&&decide (i<=h)
 |_=>false
end L2
namespace L2
open PySem PySem.Spec PyProof.Rows
inductive DO (t u:TS):Type where
 |mk:DO t u
noncomputable def kL (t u:TS) (_:DO t u):TS:=λD σ H=>∃M:St->Hp->Prop,t {D with nx:=M} σ H/\∀σ' H',M σ' H'->u D σ' H'
theorem nB {X:Cx} {st:Stmt} {rest:List Stmt} {t u:TS} (h1:PS X st t) (h2:WD X rest u):WD X (st::rest) (kL t u .mk):=by
 intro pins s σ H D I h;obtain⟨M,h,hM⟩:=h;refine wpAny_execs_cons (YA (h1 pins s σ H {D with nx:=M} I h) λf s1 q=>?_);cases f with
 |next=>
  obtain⟨σ',H',I',q⟩:=q;exact h2 pins s1 σ' H' D I' (hM σ' H' q)
 |ret v=>exact q
 |brk=>exact q
 |cont=>exact q
noncomputable def EO:Option HO->Option (List V)
 |some (.lst xs)=>some xs
 |some (.frz _ (.lst xs))=>some xs
 |_=>none
noncomputable def FO:Option HO->Option (List V)
 |some (.tup xs)=>some xs
 |some (.frz _ (.tup xs))=>some xs
 |_=>none
theorem dY {xs:List V}:EO (some (.lst xs))=some xs:=rfl
theorem eY {xs:List V}:FO (some (.tup xs))=some xs:=rfl
theorem fY {i j:Int}:zF (.int i) (.int j)=true:=rfl
theorem gY {i j:Bool}:zF (.bl i) (.bl j)=true:=rfl
theorem iY {i j:Str}:zF (.str i) (.str j)=true:=rfl
theorem GO:Int.natAbs 10=10:=rfl
theorem iB {H:Hp}:iA H H:=λ_ _ h=>h
theorem HB {H H':Hp} {p:Addr} {o:HO} (s:iA H H') (h:H' p=none):iA H (upd H' p o):=λb u e=>by
 have q:=s b u e;rw[oA (BB q h)];exact q
end L2
namespace L2
open PySem PySem.Spec PyProof.Rows
end L2
namespace L2
open PySem PySem.Spec PyProof.Rows
inductive dF (g:TG) (tb:TS):Type where
 |mk:dF g tb
noncomputable def BG (g:TG) (tb:TS) (_:dF g tb) (J:It):TS:=λD σ H=>∃W:Nat->Nat->St->Hp->Prop,(∃m,W 0 m σ H)/\∀i m σ H,W i m σ H->
 (J.stop i H/\D.nx σ H)\/(J.go i H/\∃N:St->Hp->Prop,(∀σ' H',N σ' H'->∃m',m' < m/\W (i+1) m' σ' H')/\∀x H',J.yld i H x H'->g x σ H' λσ2 H2=>tb {D with nx:=N,ct:=N,bk:=D.nx} σ2 H2)
noncomputable def jH (wi:TI) (g:TG) (tb:TS) (h:dF g tb):TS:=λD σ H=>wi σ H λJ H1=>BG g tb h J D σ H1
theorem rF {X:Cx} {tg iter:Expr} {body:List Stmt} {wi:TI} {g:TG} {tb:TS} {pos:Pos} (hp:PassesOwn (model X.prog X.w) X.A X.env X.xe) (hc:X.calm=true) (hi:PI X tg iter wi) (hg:PG X tg g) (hb:WD X body tb)
 (hs:∀x,foldedSetIterable iter X.env x=pure x:=by intro _;rfl):PS X (.For tg iter body [] pos) (jH wi g tb .mk):=oI hp hc hi hg hb hs
theorem iK {lo:Int} {n:Nat} {g:TG} {tb:TS} {h:dF g tb} {D:fC} {σ:St} {H:Hp} (Pv:Nat->St->Hp->Prop) (h0:Pv 0 σ H)
 (hs:∀i σ H,i < n->Pv i σ H->g (.int (lo+i)) σ H λσ2 H2=>tb {D with nx:=Pv (i+1),ct:=Pv (i+1),bk:=D.nx} σ2 H2) (hd:∀σ H,Pv n σ H->D.nx σ H):BG g tb h (VG lo n) D σ H:=sX Pv h0 hs hd
theorem lL {K:PySem.W.Frag} {a:Addr} {xs:List V} {g:TG} {tb:TS} {h:dF g tb} {D:fC} {σ:St} {H:Hp} (Pv:Nat->St->Hp->Prop) (h0:Pv 0 σ H) (hl:∀i σ H,i<=xs.length->Pv i σ H->kA K H a xs)
 (hs:∀i x σ H,xs[i]?=some x->Pv i σ H->g x σ H λσ2 H2=>tb {D with nx:=Pv (i+1),ct:=Pv (i+1),bk:=D.nx} σ2 H2) (hd:∀σ H,Pv xs.length σ H->D.nx σ H):BG g tb h (UG K a) D σ H:=rX Pv h0 hl hs hd
noncomputable def pw (n:Int):Int:=2 ^ n.toNat
end L2
namespace L2
open PySem PySem.Spec PyProof.Rows
end L2
namespace L2
open PySem PySem.Spec PyProof.Rows
theorem WM {H:Hp} {x dx:Addr} {o:HO} (hx:H x=none) (hd:H dx=none) (hne:dx≠x):iA H (upd (upd H dx (.own x)) x o):=
 HB (HB iB hd) (by rw[oA (Ne.symm hne)];exact hx)
end L2
namespace L2
open PySem PySem.Spec PyProof.Rows
end L2
namespace L2
open PySem PySem.Spec PyProof.Rows
end L2
namespace L2
open PySem PySem.Spec PyProof.Rows
theorem EU {H:Hp} {a:Addr} {xs:List V} (h:H a=some (.tup xs)):EE "tuple" H (.ref a)=true:=by
 unfold EE;rw[show kd H (.ref a)=bD (H a) from rfl,h];rfl
theorem FU {H:Hp} {a:Addr} {xs:List V} (h:H a=some (.lst xs)):EE "list" H (.ref a)=true:=by
 unfold EE;rw[show kd H (.ref a)=bD (H a) from rfl,h];rfl
end L2
namespace L2
open PySem PySem.Spec PyProof.Rows
section
variable {X:Cx} {pins pins2:List (Addr×Obj)} {σ:St} {H:Hp} {s:Shared} {E':Value->Shared->Prop}
end
end L2
namespace PySem.W
open PySem PySem.Spec PySem.Calls PyProof.Rows
open Builtin Builtin.ObjectAttr Builtin.Getset_descriptor
noncomputable def kH (e C:Addr) (h:Heap):Prop:=∃o,h.get? e=some o/\o.cls=.ref C
section
variable {K:Frag} {e C:Addr}
theorem kH.ty {M:Model} {h:Heap} (p:kH e C h):Looks M h (typeOf (.ref e)) (.ref C):=by
 obtain⟨o,h1,h2⟩:=p;exact h2 ▸ (Looks.ld h1).andThen .now
variable {prog:Program} {w:World} {A:Around} {E:Value->Shared->Prop} {s:Shared}
end
end PySem.W
namespace L2
open PySem PySem.Spec PyProof.Rows
noncomputable def mL:V->Value
 |.ref a=>.ref a
 |.ty n=>.type n
 |_=>.none
theorem jY {a:Addr}:mL (.ref a)=.ref a:=rfl
theorem kY {n:String}:mL (.ty n)=.type n:=rfl
end L2
namespace L2
open PySem PySem.Spec PyProof.Rows
inductive Dv where
 |leaf (v:V)
 |seq (t:Bool) (ds:List Dv)
mutual
noncomputable def vB (K:PySem.W.Frag) (H:Hp):Dv->V->Prop
 |.leaf v,x=>x=v/\JB v=true
 |.seq t ds,x=>∃a xs,x=.ref a/\(if t=true then cB K H a xs else kA K H a xs)/\zA K H ds xs
noncomputable def zA (K:PySem.W.Frag) (H:Hp):List Dv->List V->Prop
 |[],xs=>xs=[]
 |d::ds,xs=>∃x r,xs=x::r/\vB K H d x/\zA K H ds r
end
mutual
noncomputable def gC:Dv->Dv->Bool
 |.leaf _,.leaf _=>true
 |.seq t ds,.seq u es=>t == u&&GA ds es
 |_,_=>false
noncomputable def GA:List Dv->List Dv->Bool
 |d::ds,e::es=>gC d e&&GA ds es
 |_,_=>true
end
mutual
noncomputable def dC:Dv->Dv->Bool
 |.leaf v,.leaf w=>UE v w
 |.seq _ ds,.seq _ es=>IA ds es
 |_,_=>false
noncomputable def IA:List Dv->List Dv->Bool
 |[],[]=>true
 |d::ds,e::es=>dC d e&&IA ds es
 |_,_=>false
end
mutual
noncomputable def kB:Dv->Nat
 |.leaf _=>0
 |.seq _ ds=>vA ds+1
noncomputable def vA:List Dv->Nat
 |[]=>0
 |d::ds=>max (kB d) (vA ds)
end
theorem zA.length {K:PySem.W.Frag} {H:Hp}:∀{ds:List Dv} {xs:List V},zA K H ds xs->ds.length=xs.length
 |[],xs,h=>by unfold zA at h;subst h;rfl
 |d::ds,xs,h=>by
  unfold zA at h;obtain⟨x,r,rfl,_,h⟩:=h;simp[h.length]
theorem zA.get {K:PySem.W.Frag} {H:Hp}:∀{ds:List Dv} {xs:List V} {j:Nat} {d:Dv},zA K H ds xs->ds[j]?=some d->∃x,xs[j]?=some x/\vB K H d x
 |[],xs,j,d,h,e=>by simp at e
 |d'::ds,xs,0,d,h,e=>by
  unfold zA at h;obtain⟨x,r,rfl,hx,h⟩:=h;simp at e;subst e;exact⟨x,rfl,hx⟩
 |d'::ds,xs,j+1,d,h,e=>by
  unfold zA at h;obtain⟨x,r,rfl,hx,h⟩:=h;obtain⟨y,e1,e2⟩:=zA.get (j:=j) h (by simpa using e);exact⟨y,by simpa using e1,e2⟩
theorem lY (n:Nat) (f:Nat->Bool):(List.range (n+1)).all f=(f 0&&(List.range n).all λj=>f (j+1)):=by
 rw[List.range_succ_eq_map,List.all_cons,List.all_map];rfl
theorem JO:∀(ds es:List Dv),IA ds es=(decide (ds.length=es.length)&&(List.range (min ds.length es.length)).all λj=>dC (ds.getD j (.leaf .non)) (es.getD j (.leaf .non)))
 |[],[]=>by simp[IA]
 |[],e::es=>by simp[IA]
 |d::ds,[]=>by simp[IA]
 |d::ds,e::es=>by
  have ih:=JO ds es;rw[IA,ih];have hm:min (d::ds).length (e::es).length=min ds.length es.length+1:=by simp[Nat.succ_min_succ]
  rw[hm,lY];simp only[List.length_cons,Nat.add_right_cancel_iff,List.getD_cons_zero,List.getD_cons_succ];cases dC d e<;>cases decide (ds.length=es.length)<;>simp
theorem mY {v:V} (h:JB v=true):UE v v=true:=by
 cases v<;>first|rfl|(simp[UE];done)|exact absurd h (by simp[JB])
mutual
theorem GU {X:Cx} {pins:List (Addr×Obj)} {σ:St} {H:Hp} {s:Shared} (I:jA X pins σ H s):∀(d e:Dv) (x:V),gC d e=true->vB X.K H d x->vB X.K H e x->dC d e=true
 |.leaf a,.leaf b,x,_,hx,hy=>by
  unfold vB at hx hy;obtain⟨rfl,fx⟩:=hx;obtain⟨rfl,fy⟩:=hy;rw[dC];exact mY fx
 |.leaf a,.seq t es,_,h,_,_=>by simp[gC] at h
 |.seq t ds,.leaf b,_,h,_,_=>by simp[gC] at h
 |.seq t ds,.seq t' es,x,h,hx,hy=>by
  rw[gC,Bool.and_eq_true] at h;have ht:=beq_iff_eq.mp h.1;subst ht;unfold vB at hx hy;obtain⟨a,xs,rfl,hsx,hL⟩:=hx;obtain⟨b,ys,e,hsy,hM⟩:=hy;cases e;rw[dC];have exy:xs=ys:=by
   cases t with
   |true=>exact I.tuple_inj (by simpa using hsx) (by simpa using hsy)
   |false=>exact I.list_inj (by simpa using hsx) (by simpa using hsy)
  subst exy;exact HU I ds es xs h.2 hL hM
theorem HU {X:Cx} {pins:List (Addr×Obj)} {σ:St} {H:Hp} {s:Shared} (I:jA X pins σ H s):∀(ds es:List Dv) (xs:List V),GA ds es=true->zA X.K H ds xs->zA X.K H es xs->IA ds es=true
 |[],[],_,_,_,_=>by rw[IA]
 |[],e::es,xs,_,hx,hy=>by
  unfold zA at hx hy;obtain⟨x,r,e1,_⟩:=hy;rw[hx] at e1;cases e1
 |d::ds,[],xs,_,hx,hy=>by
  unfold zA at hx hy;obtain⟨x,r,e1,_⟩:=hx;rw[hy] at e1;cases e1
 |d::ds,e::es,xs,h,hx,hy=>by
  rw[GA,Bool.and_eq_true] at h;unfold zA at hx hy;obtain⟨x,r,rfl,hx,hxr⟩:=hx;obtain⟨y,r',e1,hy,hyr⟩:=hy;cases e1;rw[IA,GU I d e x h.1 hx hy,HU I ds es r h.2 hxr hyr]
  rfl
end
theorem IU {X:Cx} {pins:List (Addr×Obj)} {σ:St} {H:Hp} {s:Shared} (I:jA X pins σ H s) {A:Around} {t:Bool} {ds es:List Dv} {a b:Addr} {xs ys:List V} (hu:A.units < cLine)
  (hsx:if t=true then cB X.K H a xs else kA X.K H a xs) (hsy:if t=true then cB X.K H b ys else kA X.K H b ys) (l1:ds.length=xs.length) (l2:es.length=ys.length)
  (ih:∀(j:Nat) (u v:Value) (us vs:List Value),pA xs us->pA ys vs->us[j]?=some u->vs[j]?=some v->SeqAt.EqAt A.in1 s u v (dC (ds.getD j (.leaf .non)) (es.getD j (.leaf .non)))):
  SeqAt.RcAt A s (.ref a) (.ref b) (IA ds es):=by
 rw[JO];cases t with
 |false=>
  obtain⟨its,rv,pl,_⟩:=I.list (show kA X.K H a xs by simpa using hsx);obtain⟨its2,rv2,pl2,_⟩:=I.list (show kA X.K H b ys by simpa using hsy);have n1:=rv.length;have n2:=rv2.length;by_cases hl:ds.length=es.length
  ·have q:=SeqAt.RcAt.lists (e:=λj=>dC (ds.getD j (.leaf .non)) (es.getD j (.leaf .non))) pl.isList pl2.isList (by simp;omega) (by omega:A.units < cLine) (λj h1 h2=>by
    have h1:j < its.length:=by simpa using h1
    have h2:j < its2.length:=by simpa using h2
    have e:=ih j (its[j]) (its2[j]) its its2 rv rv2 (by simp[h1]) (by simp[h2]);simpa using e)
   rw[decide_eq_true hl,Bool.true_and];have em:min ds.length es.length=its.toArray.size:=by simp;omega
   rw[em];exact q
  ·have q:=SeqAt.RcAt.lists_lengths (A:=A) pl.isList pl2.isList (by simp;omega) (by omega:A.units < cLine);rw[decide_eq_false hl,Bool.false_and];exact q
 |true=>
  obtain⟨its,rv,pl,_⟩:=I.tuple (show cB X.K H a xs by simpa using hsx);obtain⟨its2,rv2,pl2,_⟩:=I.tuple (show cB X.K H b ys by simpa using hsy);have n1:=rv.length;have n2:=rv2.length;have q:=SeqAt.RcAt.tuples (e:=λj=>dC (ds.getD j (.leaf .non)) (es.getD j (.leaf .non))) (show s.heap.IsTuple a its.toArray from pl) (show s.heap.IsTuple b its2.toArray from pl2) (by omega:A.units < cLine) (λj h1 h2=>by
    have h1:j < its.length:=by simpa using h1
    have h2:j < its2.length:=by simpa using h2
    have e:=ih j (its[j]) (its2[j]) its its2 rv rv2 (by simp[h1]) (by simp[h2]);simpa using e)
  have em:min its.toArray.size its2.toArray.size=min ds.length es.length:=by simp;omega
  have eb:(its.toArray.size == its2.toArray.size)=decide (ds.length=es.length):=by
   rw[Bool.eq_iff_iff];simp;omega
  rw[em,eb,Bool.and_comm] at q;exact q
mutual
theorem nY {X:Cx} {pins:List (Addr×Obj)} {σ:St} {H:Hp} {s:Shared} (I:jA X pins σ H s):∀(d e:Dv) (A:Around) (x y:V) (u v:Value),A.units+kB d < cLine->gC d e=true->vB X.K H d x->vB X.K H e y->sA x u->sA y v->SeqAt.EqAt A s u v (dC d e)
 |.leaf a,.leaf b,A,x,y,u,v,_,_,hx,hy,rx,ry=>by
  unfold vB at hx hy;obtain⟨rfl,fx⟩:=hx;obtain⟨rfl,fy⟩:=hy;rw[dC];exact pU rx ry fx fy
 |.leaf a,.seq t es,A,x,y,u,v,_,h,_,_,_,_=>by simp[gC] at h
 |.seq t ds,.leaf b,A,x,y,u,v,_,h,_,_,_,_=>by simp[gC] at h
 |.seq t ds,.seq t' es,A,x,y,u,v,hu,h,hx,hy,rx,ry=>by
  have h0:=h;rw[gC,Bool.and_eq_true] at h;have ht:=beq_iff_eq.mp h.1;subst ht;have hx0:=hx;have hy0:=hy;unfold vB at hx hy;obtain⟨a,xs,rfl,hsx,hL⟩:=hx;obtain⟨b,ys,rfl,hsy,hM⟩:=hy;cases rx;cases ry;by_cases hab:a=b
  ·subst hab;rw[GU I _ _ _ h0 hx0 hy0];exact SeqAt.EqAt.same _
  ·rw[kB] at hu;have hu1:A.in1.units+vA ds < cLine:=by show A.units+1+vA ds < cLine;omega
   have ih:=XM I ds es A.in1 xs ys hu1 h.2 hL hM;rw[dC];exact SeqAt.EqAt.of_refs hab (IU I ⋯ hsx hsy hL.length hM.length ih)
theorem XM {X:Cx} {pins:List (Addr×Obj)} {σ:St} {H:Hp} {s:Shared} (I:jA X pins σ H s):∀(ds es:List Dv) (A:Around) (xs ys:List V),A.units+vA ds < cLine->GA ds es=true->zA X.K H ds xs->zA X.K H es ys->
  ∀(j:Nat) (u v:Value) (us vs:List Value),pA xs us->pA ys vs->us[j]?=some u->vs[j]?=some v->SeqAt.EqAt A s u v (dC (ds.getD j (.leaf .non)) (es.getD j (.leaf .non)))
 |[],es,A,xs,ys,_,_,hx,hy,j,u,v,us,vs,rx,ry,e1,e2=>by
  unfold zA at hx;subst hx;cases rx;simp at e1
 |d::ds,[],A,xs,ys,_,_,hx,hy,j,u,v,us,vs,rx,ry,e1,e2=>by
  unfold zA at hy;subst hy;cases ry;simp at e2
 |d::ds,e::es,A,xs,ys,hu,h,hx,hy,j,u,v,us,vs,rx,ry,e1,e2=>by
  rw[GA,Bool.and_eq_true] at h;rw[vA] at hu;unfold zA at hx hy;obtain⟨x,r,rfl,hx,hxr⟩:=hx;obtain⟨y,r',rfl,hy,hyr⟩:=hy;cases rx with
  |cons p1 p2=>
   cases ry with
   |cons q1 q2=>
    cases j with
    |zero=>
     simp at e1 e2;subst e1 e2;exact nY I d e A x y _ _ ⋯ h.1 hx hy p1 q1
    |succ k=>
     have z:=XM I ds es A r r' ⋯ h.2 hxr hyr k u v _ _ p2 q2 (by simpa using e1) (by simpa using e2);simpa using z
end
theorem jK {A:Around} {k:Nat} (hr:rB k A):A.units+4+2 < cLine:=by have:=hr.units;omega
noncomputable def CG (K:PySem.W.Frag) (n:Nat):R2:=λx y H Q=>∃t ds es,vB K H (.seq t ds) x/\vB K H (.seq t es) y/\GA ds es=true/\vA ds<=n/\Q (.bl (IA ds es)) H
noncomputable def nL (K:PySem.W.Frag) (n:Nat):R2:=λx y H Q=>∃t ds es,vB K H (.seq t ds) x/\vB K H (.seq t es) y/\GA ds es=true/\vA ds<=n/\Q (.bl (!IA ds es)) H
theorem pL {X:Cx} {pins:List (Addr×Obj)} {σ:St} {H:Hp} {s:Shared} (I:jA X pins σ H s) {A:Around} {n:Nat} (hu:A.units+n+2 < cLine) {t:Bool} {ds es:List Dv} {x y:V} {u v:Value} (hx:vB X.K H (.seq t ds) x) (hy:vB X.K H (.seq t es) y) (ha:GA ds es=true) (hd:vA ds<=n)
  (rx:sA x u) (ry:sA y v):SeqAt.RcAt A s u v (IA ds es):=by
 unfold vB at hx hy;obtain⟨a,xs,rfl,hsx,hL⟩:=hx;obtain⟨b,ys,rfl,hsy,hM⟩:=hy;cases rx;cases ry;exact IU I ⋯ hsx hsy hL.length hM.length (XM I ds es A.in1 xs ys (by show A.units+1+vA ds < cLine;omega) ha hL hM)
theorem JU {X:Cx} {n:Nat} (hu:X.A.units+n+2 < cLine):OC X (compareOp .Eq) (CG X.K n):=by
 intro pins s σ H x y v u Q I rx ry h;obtain⟨t,ds,es,hx,hy,ha,hd,q⟩:=h;exact pL I hu hx hy ha hd rx ry X.prog X.w X.xe _ ⟨.bl _,H,I,rfl,q⟩
theorem oY {X:Cx} {pins:List (Addr×Obj)} {σ:St} {H:Hp} {s:Shared} (I:jA X pins σ H s) {A:Around} {t:Bool} {ds es:List Dv} {a b:Addr} {xs ys:List V} (hu:A.units < cLine)
  (hsx:if t=true then cB X.K H a xs else kA X.K H a xs) (hsy:if t=true then cB X.K H b ys else kA X.K H b ys) (l1:ds.length=xs.length) (l2:es.length=ys.length)
  (ih:∀(j:Nat) (u v:Value) (us vs:List Value),pA xs us->pA ys vs->us[j]?=some u->vs[j]?=some v->SeqAt.EqAt A.in1 s u v (dC (ds.getD j (.leaf .non)) (es.getD j (.leaf .non)))):
  SeqAt.RcNeAt A s (.ref a) (.ref b) (!IA ds es):=by
 rw[JO];cases t with
 |false=>
  obtain⟨its,rv,pl,_⟩:=I.list (show kA X.K H a xs by simpa using hsx);obtain⟨its2,rv2,pl2,_⟩:=I.list (show kA X.K H b ys by simpa using hsy);have n1:=rv.length;have n2:=rv2.length;by_cases hl:ds.length=es.length
  ·have q:=SeqAt.RcNeAt.lists (e:=λj=>dC (ds.getD j (.leaf .non)) (es.getD j (.leaf .non))) pl.isList pl2.isList (by simp;omega) (by omega:A.units < cLine) (λj h1 h2=>by
    have h1:j < its.length:=by simpa using h1
    have h2:j < its2.length:=by simpa using h2
    have e:=ih j (its[j]) (its2[j]) its its2 rv rv2 (by simp[h1]) (by simp[h2]);simpa using e)
   rw[decide_eq_true hl,Bool.true_and];have em:min ds.length es.length=its.toArray.size:=by simp;omega
   rw[em];exact q
  ·have q:=SeqAt.RcNeAt.lists_lengths (A:=A) pl.isList pl2.isList (by simp;omega) (by omega:A.units < cLine);rw[decide_eq_false hl,Bool.false_and];exact q
 |true=>
  obtain⟨its,rv,pl,_⟩:=I.tuple (show cB X.K H a xs by simpa using hsx);obtain⟨its2,rv2,pl2,_⟩:=I.tuple (show cB X.K H b ys by simpa using hsy);have n1:=rv.length;have n2:=rv2.length;have q:=SeqAt.RcNeAt.tuples (e:=λj=>dC (ds.getD j (.leaf .non)) (es.getD j (.leaf .non))) (show s.heap.IsTuple a its.toArray from pl) (show s.heap.IsTuple b its2.toArray from pl2) (by omega:A.units < cLine) (λj h1 h2=>by
    have h1:j < its.length:=by simpa using h1
    have h2:j < its2.length:=by simpa using h2
    have e:=ih j (its[j]) (its2[j]) its its2 rv rv2 (by simp[h1]) (by simp[h2]);simpa using e)
  have em:min its.toArray.size its2.toArray.size=min ds.length es.length:=by simp;omega
  have eb:(its.toArray.size == its2.toArray.size)=decide (ds.length=es.length):=by
   rw[Bool.eq_iff_iff];simp;omega
  rw[em,eb,Bool.and_comm] at q;exact q
theorem EI {X:Cx} {n:Nat} (hu:X.A.units+n+2 < cLine):OC X (compareOp .NotEq) (nL X.K n):=by
 intro pins s σ H x y v u Q I rx ry h;obtain⟨t,ds,es,hx,hy,ha,hd,q⟩:=h;unfold vB at hx hy;obtain⟨a,xs,rfl,hsx,hL⟩:=hx;obtain⟨b,ys,rfl,hsy,hM⟩:=hy;cases rx;cases ry;exact oY I ⋯ hsx hsy hL.length hM.length (XM I ds es X.A.in1 xs ys (by show X.A.units+1+vA ds < cLine;omega) ha hL hM) X.prog X.w X.xe _ ⟨.bl _,H,I,rfl,q⟩
noncomputable def jB (ns:List Int):List Dv:=ns.map λi=>.leaf (.int i)
theorem KU {K:PySem.W.Frag} {H:Hp}:∀(ns:List Int),zA K H (jB ns) (ns.map V.int)
 |[]=>by unfold jB zA;rfl
 |n::ns=>by
  show zA K H (.leaf (.int n)::jB ns) (.int n::ns.map V.int);unfold zA;exact⟨_,_,rfl,by unfold vB;exact⟨rfl,rfl⟩,KU ns⟩
theorem LU {K:PySem.W.Frag} {H:Hp} {a:Addr} {ns:List Int} (h:kA K H a (ns.map V.int)):vB K H (.seq false (jB ns)) (.ref a):=by
 unfold vB;exact⟨a,_,rfl,by simpa using h,KU ns⟩
theorem MU:∀(ns ms:List Int),GA (jB ns) (jB ms)=true
 |[],_=>by unfold jB;simp[GA]
 |_::_,[]=>by unfold jB;simp[GA]
 |n::ns,m::ms=>by
  show GA (.leaf (.int n)::jB ns) (.leaf (.int m)::jB ms)=true;rw[GA,gC,MU ns ms];rfl
theorem NU:∀(ns:List Int),vA (jB ns)=0
 |[]=>by unfold jB;simp[vA]
 |n::ns=>by
  show vA (.leaf (.int n)::jB ns)=0;rw[vA,kB,NU ns];rfl
theorem OU:∀(ns ms:List Int),IA (jB ns) (jB ms)=decide (ns=ms)
 |[],[]=>by unfold jB;simp[IA]
 |[],_::_=>by unfold jB;simp[IA]
 |_::_,[]=>by unfold jB;simp[IA]
 |n::ns,m::ms=>by
  show IA (.leaf (.int n)::jB ns) (.leaf (.int m)::jB ms)=_;rw[IA,dC,OU ns ms];show ((n == m)&&decide (ns=ms))=_;rw[Bool.eq_iff_iff];simp
end L2
namespace L2
open PySem PySem.Spec PyProof.Rows
noncomputable def WC (sc:Scope) (env:Env) (x:Str) (fs:List Str):Bool:=
 sc.kind == .function&&sc.names.all (λy=>y.2 != .cell&&(y.2 != .local || sc.names.lookup y.1 == some .local)&&(y.2 != .free || env.kindOf y.1 == some .cell || env.kindOf y.1 == some .free))&&
  sc.names.lookup x == some .local&&fs.all (λf=>sc.names.lookup f == some .free)
structure AC (sc:Scope) (env:Env) (x:Str) (fs:List Str):Prop where
 kind:sc.kind=.function
 nocell:∀y∈sc.names,y.2≠.cell
 own:∀y∈sc.names,y.2=.local->sc.names.lookup y.1=some .local
 fr:∀y∈sc.names,y.2=.free->env.kindOf y.1=some .cell\/env.kindOf y.1=some .free
 x:sc.names.lookup x=some .local
 fs:∀f∈fs,sc.names.lookup f=some .free
theorem AC.of {sc:Scope} {env:Env} {x:Str} {fs:List Str} (h:WC sc env x fs=true):AC sc env x fs:=by
 unfold WC at h;simp only[Bool.and_eq_true,beq_iff_eq,List.all_eq_true,Bool.or_eq_true,bne_iff_ne,ne_eq] at h;obtain⟨⟨⟨h1,h2⟩,h3⟩,h4⟩:=h;refine⟨h1,λy hy=>(h2 y hy).1.1,λy hy e=>?_,λy hy e=>?_,h3,h4⟩
 ·rcases (h2 y hy).1.2 with z|z
  ·exact absurd e z
  ·exact z
 ·rcases (h2 y hy).2 with (z|z)|z
  ·exact absurd e z
  ·exact .inl z
  ·exact .inr z
theorem KO {env:Env}:∀(names:List (Str×NameKind)) (acc:List (Str×Addr)),(∀n,(n,NameKind.free)∈names->∃c,env.cells.lookup n=some c)->
  ∃cl,(forIn names acc λy r=>(do if (y.2 == NameKind.free)=true then do let c<-cellOf env y.1;pure (ForInStep.yield ((y.1,c)::r)) else pure (ForInStep.yield r):Sem (ForInStep (List (Str×Addr)))))=pure cl/\
   (∀n c,cl.lookup n=some c->acc.lookup n=some c\/env.cells.lookup n=some c)/\∀n,(∃c,acc.lookup n=some c)\/(n,NameKind.free)∈names->∃c,cl.lookup n=some c
 |[],acc,_=>⟨acc,rfl,λ_ _ e=>.inl e,λn h=>h.elim id λz=>nomatch z⟩
 |(n,k)::r,acc,h=>by
  have hr:∀m,(m,NameKind.free)∈r->∃c,env.cells.lookup m=some c:=λm hm=>h m (List.mem_cons_of_mem _ hm);by_cases hk:k=.free
  ·subst hk;obtain⟨c,hc⟩:=h n List.mem_cons_self;obtain⟨cl,e,h1,h2⟩:=KO r ((n,c)::acc) hr;refine⟨cl,?_,λm c' hm=>?_,λm hm=>h2 m ?_⟩
   ·rw[List.forIn_cons];simp only[beq_self_eq_true,if_true,cellOf,hc,pure_bind];exact e
   ·rcases h1 m c' hm with z|z
    ·rw[List.lookup_cons] at z;cases q:m == n with
     |true=>
      rw[q] at z;cases z;rw[beq_iff_eq.mp q];exact .inr hc
     |false=>rw[q] at z;exact .inl z
    ·exact .inr z
   ·rw[List.lookup_cons];rcases hm with ⟨c',z⟩|hm
    ·cases q:m == n with
     |true=>exact .inl ⟨c,rfl⟩
     |false=>exact .inl ⟨c',z⟩
    ·rcases List.mem_cons.mp hm with z|z
     ·cases z;rw[beq_self_eq_true];exact .inl ⟨c,rfl⟩
     ·exact .inr z
  ·obtain⟨cl,e,h1,h2⟩:=KO r acc hr;refine⟨cl,?_,h1,λm hm=>h2 m ?_⟩
   ·rw[List.forIn_cons];have hb:(k == NameKind.free)=false:=by simpa using hk
    simp only[hb,Bool.false_eq_true,if_false,pure_bind];exact e
   ·rcases hm with z|hm
    ·exact .inl z
    ·rcases List.mem_cons.mp hm with z|z
     ·cases z;exact absurd rfl hk
     ·exact .inr z
theorem pY {env:Env} {sc:Scope} (h:∀n,(n,NameKind.free)∈sc.names->∃c,env.cells.lookup n=some c):
  ∃cl,closureFor sc env=pure cl/\(∀n c,cl.lookup n=some c->env.cells.lookup n=some c)/\∀n,(n,NameKind.free)∈sc.names->∃c,cl.lookup n=some c:=by
 obtain⟨cl,e,h1,h2⟩:=KO sc.names [] h;refine⟨cl,?_,λn c z=>(h1 n c z).elim (λq=>nomatch q) id,λn hn=>h2 n (.inr hn)⟩;unfold closureFor;simp only[bind_pure];exact e
theorem LO {env:Env}:∀{names:List (Str×NameKind)} {x:Str} {k:NameKind},(names.map λ(n,k)=>if (k == NameKind.free&&env.scope.kind == .function&&env.kindOf n == some .cell) then (n,NameKind.cell) else (n,k)).lookup x=some k->
  k=.cell\/k=.free->names.lookup x=some .free\/names.lookup x=some .cell
 |[],_,_,h,_=>by simp at h
 |(n,k0)::r,x,k,h,hk=>by
  have ih:=@LO env r x k;have h:List.lookup x ((if (k0 == NameKind.free&&env.scope.kind == .function&&env.kindOf n == some .cell)=true then (n,NameKind.cell) else (n,k0))::(r.map λ(n,k)=>if (k == NameKind.free&&env.scope.kind == .function&&env.kindOf n == some .cell) then (n,NameKind.cell) else (n,k)))=some k:=h;by_cases hc:(k0 == NameKind.free&&env.scope.kind == .function&&env.kindOf n == some .cell)=true
  ·rw[if_pos hc] at h;simp only[List.lookup_cons] at h ⊢;cases hx:x == n with
   |true=>
    simp only[Bool.and_eq_true,beq_iff_eq] at hc;rw[hc.1.1];exact .inl rfl
   |false=>rw[hx] at h;exact ih h hk
  ·rw[if_neg hc] at h;simp only[List.lookup_cons] at h ⊢;cases hx:x == n with
   |true=>
    rw[hx] at h;cases h;rcases hk with rfl|rfl
    ·exact .inr rfl
    ·exact .inl rfl
   |false=>rw[hx] at h;exact ih h hk
theorem PU {env:Env}:∀{names:List (Str×NameKind)} {x:Str},names.lookup x=some .free->
  (names.map λ(n,k)=>if (k == NameKind.free&&env.scope.kind == .function&&env.kindOf n == some .cell) then (n,NameKind.cell) else (n,k)).lookup x=some .cell\/(names.map λ(n,k)=>if (k == NameKind.free&&env.scope.kind == .function&&env.kindOf n == some .cell) then (n,NameKind.cell) else (n,k)).lookup x=some .free
 |[],_,h=>by simp at h
 |(n,k0)::r,x,h=>by
  have ih:=@PU env r x;show List.lookup x ((if (k0 == NameKind.free&&env.scope.kind == .function&&env.kindOf n == some .cell)=true then (n,NameKind.cell) else (n,k0))::_)=_\/List.lookup x ((if (k0 == NameKind.free&&env.scope.kind == .function&&env.kindOf n == some .cell)=true then (n,NameKind.cell) else (n,k0))::_)=_;simp only[List.lookup_cons] at h;by_cases hc:(k0 == NameKind.free&&env.scope.kind == .function&&env.kindOf n == some .cell)=true
  ·rw[if_pos hc];simp only[List.lookup_cons];cases hx:x == n with
   |true=>exact .inl rfl
   |false=>rw[hx] at h;exact ih h
  ·rw[if_neg hc];simp only[List.lookup_cons];cases hx:x == n with
   |true=>rw[hx] at h;exact .inr h
   |false=>rw[hx] at h;exact ih h
noncomputable def WA (X:Cx) (scope:Scope) (cl:List (Str×Addr)) (C:Addr) (N:List Str) (s₀:Shared) (H₀:Hp) (fp:List Addr) (xe:Value->Shared->Prop):Cx:=
 {X with N:=N,s₀:=s₀,H₀:=H₀,env:=compEnvC scope cl C X.env,outer:=X.stack,stack:=X.stack,ex:=fp,fn:=λ_=>false,pn:=[],xe:=xe}
theorem lH {X:Cx}:XW X (λ_ _ _=>False):=λ_ _ _ _ _ _ _ _ _ _ _ _ _ _ _ h=>h.elim
inductive FE (g:TG) (tt:TT) (te:TE):Type where
 |mk:FE g tt te
noncomputable def PF (X:Cx) (ifs:List Expr) (tt:TT):Prop:=
 ∀(pins:List (Addr×Obj)) (s:Shared) (σ:St) (H:Hp) (Q:Bool->Hp->Prop),jA X pins σ H s->tt σ H Q->
  wpAny (model X.prog X.w) X.A (forIn ifs true λc r=>if r=true then do let ok<-isTrue c X.env (eval c X.env);pure (ForInStep.yield ok) else pure (ForInStep.yield r)) (TP X pins σ Q) X.xe s
noncomputable def tYes:TT:=λ_ H Q=>Q true H
theorem nG {X:Cx}:PF X [] tYes:=λ_ _ _ H _ I h=>by
 simp only[List.forIn_nil];exact wpAny_pure ⟨H,I,h⟩
theorem FI {X:Cx} {c:Expr} {tt:TT} (h:PT X c tt):PF X [c] tt:=λpins s σ H Q I hw=>wpAny_tests_one (h pins s σ H Q I hw)
noncomputable def eF (g:TG) (tt:TT) (te:TE) (_:FE g tt te) (J:It) (σ0:St) (D:Addr) (Q:Hp->Prop) (H:Hp):Prop:=
 ∃W:Nat->Nat->List V->St->Hp->Prop,(∃m,W 0 m [] σ0 (upd H D (.lst [])))/\∀i m ys σ H,W i m ys σ H->
  (J.stop i H/\Q H)\/(J.go i H/\∃N:List V->St->Hp->Prop,(∀ys σ H,N ys σ H->∃m',m' < m/\W (i+1) m' ys σ H)/\
   ∀y H',J.yld i H y H'->g y σ H' λσ2 H2=>tt σ2 H2 λb H2'=>if b=true then te σ2 H2' λv H3=>H3 D=some (.lst ys)/\ys.length < sizeLine/\N (ys++[v]) σ2 (upd H3 D (.lst (ys++[v]))) else N ys σ2 H2')
noncomputable def NF (wi:TI) (ix:List Nat) (g:TG) (tt:TT) (te:TE) (h:FE g tt te):TE:=λσ H Q=>wi σ H λJ H1=>∀D,H1 D=none->eF g tt te h J (none::ix.map λi=>(σ[i]?).join) D (λH'=>Q (.ref D) H') H1
theorem DG {lo:Int} {n:Nat} {g:TG} {tt:TT} {te:TE} {h:FE g tt te} {σ0:St} {D:Addr} {Q:Hp->Prop} {H:Hp} (Pv:Nat->List V->St->Hp->Prop) (h0:Pv 0 [] σ0 (upd H D (.lst [])))
  (hs:∀i ys σ H,i < n->Pv i ys σ H->g (.int (lo+i)) σ H λσ2 H2=>tt σ2 H2 λb H2'=>if b=true then te σ2 H2' λv H3=>H3 D=some (.lst ys)/\ys.length < sizeLine/\Pv (i+1) (ys++[v]) σ2 (upd H3 D (.lst (ys++[v]))) else Pv (i+1) ys σ2 H2') (hd:∀ys σ H,Pv n ys σ H->Q H):
  eF g tt te h (VG lo n) σ0 D Q H:=by
 refine⟨λi m ys σ H=>i+m=n/\Pv i ys σ H,⟨n,Nat.zero_add n,h0⟩,λi m ys σ H ⟨e,p⟩=>?_⟩;by_cases hi:i < n
 ·refine .inr ⟨hi,Pv (i+1),λys σ H q=>⟨m - 1,⋯,⋯,q⟩,?_⟩;rintro y H' ⟨rfl,rfl⟩;exact hs i ys σ H' hi p
 ·have e':i=n:=⋯;subst e';exact .inl ⟨Nat.le_refl _,hd ys σ H p⟩
theorem GI {K:PySem.W.Frag} {a:Addr} {xs:List V} {g:TG} {tt:TT} {te:TE} {h:FE g tt te} {σ0:St} {D:Addr} {Q:Hp->Prop} {H:Hp} (Pv:Nat->List V->St->Hp->Prop) (h0:Pv 0 [] σ0 (upd H D (.lst []))) (hl:∀i ys σ H,i<=xs.length->Pv i ys σ H->kA K H a xs)
  (hs:∀i x ys σ H,xs[i]?=some x->Pv i ys σ H->g x σ H λσ2 H2=>tt σ2 H2 λb H2'=>if b=true then te σ2 H2' λv H3=>H3 D=some (.lst ys)/\ys.length < sizeLine/\Pv (i+1) (ys++[v]) σ2 (upd H3 D (.lst (ys++[v]))) else Pv (i+1) ys σ2 H2') (hd:∀ys σ H,Pv xs.length ys σ H->Q H):
  eF g tt te h (UG K a) σ0 D Q H:=by
 refine⟨λi m ys σ H=>i+m=xs.length/\Pv i ys σ H,⟨xs.length,Nat.zero_add _,h0⟩,λi m ys σ H ⟨e,p⟩=>?_⟩;have hq:=hl i ys σ H ⋯ p;by_cases hi:i < xs.length
 ·have ex:xs[i]?=some xs[i]:=List.getElem?_eq_getElem hi;refine .inr ⟨⟨xs,_,hq,ex⟩,Pv (i+1),λys σ H q=>⟨m - 1,⋯,⋯,q⟩,?_⟩;rintro y H' ⟨rfl,hy⟩;exact hs i y ys σ H' (hy xs hq) p
 ·have e':i=xs.length:=⋯;subst e';exact .inl ⟨⟨xs,hq,Nat.le_refl _⟩,hd ys σ H p⟩
theorem qY {prog:Program} {w:World} {A:Around} {R:Result->Shared->Prop} {s:Shared} {elt target iter:Expr} {ifs:List Expr} {scope:Scope} {pos:Pos} {it acc:Value} {env:Env} (I:Nat->Shared->Prop)
  (turn:∀n s,I n s->wpAny (model prog w) A (pyNext it) (λr s₁=>match r with
   |none=>R (.ok .next) s₁
   |some v=>wpAny (model prog w) A (letOwnedTupleGo target it v) (λ_ s₁'=>wpAny (model prog w) A (assign target env v) (λ_ s₂=>
    wpAny (model prog w) A (forIn ifs true λc r=>if r=true then do let ok<-isTrue c env (eval c env);pure (ForInStep.yield ok) else pure (ForInStep.yield r)) (λok s₃=>
     if ok=true then wpAny (model prog w) A (eval elt env) (λx s₄=>
      wpAny (model prog w) A (call (.builtin "list.append") [acc,x]) (λ_ s₅=>∃m,m < n/\I m s₅) (notedBy (model prog w) A env λe s'=>R (.error e) s') s₄) (notedBy (model prog w) A env λe s'=>R (.error e) s') s₃
     else ∃m,m < n/\I m s₃) (notedBy (model prog w) A env λe s'=>R (.error e) s') s₂) (notedBy (model prog w) A env λe s'=>R (.error e) s') s₁') (notedBy (model prog w) A env λe s'=>R (.error e) s') s₁) (notedBy (model prog w) A env λe s'=>R (.error e) s') s)
  (n:Nat) (h:I n s):codeAny (model prog w) A (.compLoop (.ListComp elt [⟨target,iter,ifs,0⟩] scope pos) 0 it acc env) R s:=by
 refine codeAny_loop rfl I (λn s hI=>?_) n h;show wpAny _ _ ((compTurn (.ListComp elt [⟨target,iter,ifs,0⟩] scope pos) 0 it acc env).onRaise (λx=>do noteFrame x env;theTreesLotGoes x)) _ _ s;refine wpAny_noted ?_;rw[compTurn_list];refine wpAny_bind (wpAny_standAt (wpAny_bind (wpAny_mono (turn n s hI) (λr s₁ h₁=>?_) λ_ _ h'=>h')));cases r with
 |none=>exact wpAny_pure h₁
 |some v=>
  refine wpAny_bind (wpAny_mono h₁ (λ_ s₁' h₁'=>?_) λ_ _ h'=>h');refine wpAny_bind (wpAny_mono h₁' (λ_ s₂ h₂=>wpAny_bind (wpAny_mono h₂ (λok s₃ h₃=>?_) λ_ _ h'=>h')) λ_ _ h'=>h');cases ok with
  |false=>exact wpAny_pure ⟨rfl,h₃⟩
  |true=>
   exact wpAny_bind (wpAny_bind (wpAny_mono h₃ (λx s₄ h₄=>wpAny_bind (wpAny_mono h₄ (λ_ s₅ h₅=>wpAny_pure (wpAny_pure ⟨rfl,h₅⟩)) λ_ _ h'=>h')) λ_ _ h'=>h'))
structure mH (ck:Cx->Prop) (P:Program) (w:World) (K:PySem.W.Frag) (tg:Expr) (J:It) (fp:List Addr) (it:Addr) (tn:Nat->Heap->Prop):Prop where
 obj:∀i h,tn i h->∀b∈fp,∃o,h.get? b=some o/\∀v,o.data≠.cell v
 keep:∀i h h',tn i h->(∀b∈fp,∀o,h.get? b=some o->h'.get? b=some o)->tn i h'
 item:∀(X:Cx),X.prog=P->X.w=w->X.K=K->ck X->∀(i:Nat) (pins:List (Addr×Obj)) (s:Shared) (σ:St) (H:Hp) (E:Value->Shared->Prop),jA X pins σ H s->(∀b∈fp,xC X pins H b)->tn i s.heap->J.go i H->
  wpAny (model P w) X.A (pyNext (.ref it)) (λr s1=>∃u,r=some u/\wpAny (model P w) X.A (letOwnedTupleGo tg (.ref it) u) (λ_ s2=>∃x H',jA X pins σ H' s2/\sA x u/\J.yld i H x H'/\tn (i+1) s2.heap/\∀b∈fp,H' b=none) E s1) E s
 done:∀(X:Cx),X.prog=P->X.w=w->X.K=K->ck X->∀(i:Nat) (pins:List (Addr×Obj)) (s:Shared) (σ:St) (H:Hp) (E:Value->Shared->Prop),jA X pins σ H s->(∀b∈fp,xC X pins H b)->tn i s.heap->J.stop i H->
  wpAny (model P w) X.A (pyNext (.ref it)) (λr s1=>r=none/\jA X pins σ H s1) E s
 self:∀(A:Around) (i:Nat) (s:Shared) (Q:Value->Shared->Prop) (E:Value->Shared->Prop),tn i s.heap->Q (.ref it) s->wpAny (model P w) A (pyIter (.ref it)) Q E s
theorem uE.g {P:Program} {w:World} {K:PySem.W.Frag} {tg:Expr} {J:It} {fp:List Addr} {it:Addr} {tn:Nat->Heap->Prop} (T:uE P w K tg J fp it tn):mH (λX=>X.calm=true) P w K tg J fp it tn:=⟨T.obj,T.keep,T.item,T.done,T.self⟩
section
variable {X:Cx}
theorem QU {ck:Cx->Prop} {pins:List (Addr×Obj)} {σ:St} {H2:Hp} {s2:Shared} {it:Addr} {fp:List Addr} {tn:Nat->Heap->Prop} {J:It} {tg iter elt:Expr} {ifs:List Expr} {scope:Scope} {cl:List (Str×Addr)} {pos:Pos} {x:Str} {fs:List Str} {ix:List Nat} {g:TG} {tt:TT} {te:TE}
  {Qf:Addr->Hp->Prop} {E:Value->Shared->Prop} {RR:Value->Addr->Result->Shared->Prop}
  (I2:jA X pins σ H2 s2) (T:mH ck X.prog X.w X.K tg J fp it tn) (st2:tn 0 s2.heap) (f2:∀b∈fp,xC X pins H2 b) (hc:∀C s₀ H₀ xe,ck (WA X scope cl C (x::fs) s₀ H₀ fp xe)) (S:AC scope X.env x fs)
  (c1:∀n c,cl.lookup n=some c->X.env.cells.lookup n=some c) (c2:∀n,(n,NameKind.free)∈scope.names->∃c,cl.lookup n=some c) (hix:ix.map (X.N[·]?)=fs.map some)
  (hg:∀C s₀ H₀ xe,PG (WA X scope cl C (x::fs) s₀ H₀ fp xe) tg g) (hf:∀C s₀ H₀ xe,PF (WA X scope cl C (x::fs) s₀ H₀ fp xe) ifs tt) (he:∀C s₀ H₀ xe,PE (WA X scope cl C (x::fs) s₀ H₀ fp xe) elt te)
  (h:∀D,H2 D=none->eF g tt te .mk J (none::ix.map λi=>(σ[i]?).join) D (Qf D) H2)
  (fin:∀D C H' s',jA X pins σ H' s'->Qf D H'->(∃m,s'.heap.Ns C m)->xC X pins H' C->RR (.ref D) C (.ok .next) s'):
  wpAny (model X.prog X.w) X.A (newList []) (λacc s₃=>wpAny (model X.prog X.w) X.A (newFunctionEnv scope X.env.globals cl [] X.env.qual none .none (some X.env)) (λcenv s₄=>
   codeAny (model X.prog X.w) X.A (.compStart (.ListComp elt [⟨tg,iter,ifs,0⟩] scope pos) 0 (.ref it) acc {cenv with scope:=relabel scope X.env}) (RR acc cenv.locals) s₄) E s₃) E s2:=by
 have hD:H2 s2.heap.objs.size=none:=I2.hok.fresh (Nat.le_refl _);obtain⟨W,⟨m0,w0⟩,turn⟩:=h _ hD;refine wpAny_newObj_type (wpAny_newFunctionEnv S.nocell (by intro y hy;simp at hy) (λh₁ hns₁ hsb₁=>?_) S.kind);have I3:jA X pins σ (upd H2 s2.heap.objs.size (.lst [])) {s2 with heap:=s2.heap.push {cls:=.type "list",dict:=none,data:=.seq ([]:List Value).toArray}}:=
  I2.laid (t':=s2.toks) (λb u e=>Heap.get?_push_of_some _ e) (Nat.le_refl _) ⟨by decide,[],0,.nil,Heap.get?_push_size _ rfl⟩
 obtain⟨e3,he3⟩:∃s3:Shared,s3={s2 with heap:=s2.heap.push {cls:=.type "list",dict:=none,data:=.seq ([]:List Value).toArray}}:=⟨_,rfl⟩
 rw[<-he3] at I3;have hh3:s2.heap.push {cls:=.type "list",dict:=none,data:=.seq ([]:List Value).toArray}=e3.heap:=by rw[he3]
 have sz3:e3.heap.objs.size=s2.heap.objs.size+1:=by rw[<-hh3,Heap.size_push]
 dsimp only at hns₁ hsb₁ ⊢;rw[hh3] at hns₁ hsb₁ ⊢;generalize hH3:upd H2 s2.heap.objs.size (.lst [])=H3 at *;have wB:∀b∈fp,b < s2.heap.objs.size:=λb hb=>let ⟨_,e,_⟩:=T.obj _ _ st2 b hb;Heap.lt_size e
 have f3:∀b∈fp,xC X pins H3 b:=λb hb=>by
  refine⟨?_,(f2 b hb).2⟩;rw[<-hH3,oA (Nat.ne_of_lt (wB b hb))];exact (f2 b hb).1
 have C0:xC X pins H3 e3.heap.objs.size:=I3.fpOk (Nat.le_refl _) (I3.hok.fresh (Nat.le_refl _));have old3:∀b o,e3.heap.get? b=some o->h₁.get? b=some o:=λb o e=>hsb₁.extBut b o (Nat.ne_of_lt (Heap.lt_size e)) (Heap.get?_push_of_some _ e);have nofs:∀b∈fp,b∉QB X.stack:=λb hb z=>(List.mem_cons.mp (I3.stkSub b z)).elim (f3 b hb).2.1 (f3 b hb).2.2.1;have hst1:tn 0 h₁:=T.keep _ _ _ st2 λb _ o e=>old3 b o (by rw[<-hh3];exact Heap.get?_push_of_some _ e);have e0:=I3.env0;have ok:∀xe,(WA X scope cl e3.heap.objs.size (x::fs) e3 H3 fp xe).Ok:=λxe=>by
  refine⟨I3.ok.mod,S.kind,I3.ok.glob,I3.ok.blt,Nat.le_refl _,λy z c h1 h2=>I3.ok.inj y z c (c1 _ _ h1) (c1 _ _ h2),λy hy=>?_,λy c z=>?_,I3.ok.hd,I3.ok.frames,.inl rfl,λb hb=>⟨?_,λy c e=>(f3 b hb).2.2.2.2.1 y c (c1 _ _ e)⟩,e0.bs,e0.bsz,λb o e hb=>?_,nofs,e0.funs,e0.frf⟩
  ·have q:scope.names.lookup y=some .free\/scope.names.lookup y=some .cell:=by
    rcases hy with hy|hy
    ·exact LO hy (.inl rfl)
    ·exact LO hy (.inr rfl)
   rcases q with q|q
   ·exact c2 y (PySem.mem_of_lookup q)
   ·exact absurd rfl (S.nocell _ (PySem.mem_of_lookup q))
  ·cases z
  ·exact Nat.ne_of_lt (Nat.lt_of_lt_of_le (wB b hb) (by rw[sz3];exact Nat.le_succ _))
  ·rcases (f3 b hb).2.2.2.1 with z|z
   ·exact I3.ok.noex b o e z
   ·exact absurd (Nat.lt_of_lt_of_le (Heap.lt_size e) (Nat.le_trans I3.ok.bsz z)) (Nat.lt_irrefl _)
 have cellUp:∀c v,e3.heap.IsCell c v->h₁.IsCell c v:=λc v ⟨o,ho,hd⟩=>⟨o,old3 _ _ ho,hd⟩
 have J0:∀xe,jA (WA X scope cl e3.heap.objs.size (x::fs) e3 H3 fp xe) [] (none::ix.map λi=>(σ[i]?).join) H3 {e3 with heap:=h₁,toks:=e3.toks+([]:List (Str×Value)).length}:=λxe=>by
  have hk:∀b o,e3.heap.get? b=some o->h₁.get? b=some o:=old3;refine⟨ok xe,rfl,I3.bare,Un.kept hk,⟨_,hns₁,λi y v h1 h2 h3=>?_⟩,λy c e=>?_,I3.hok.fresh (Nat.le_refl _),λy c e=>I3.freeC y c (c1 _ _ e),λp hp=>absurd (show p∈([]:List (Addr×Obj)) from hp) (by simp),I3.hok.kept hk,?_⟩
  ·cases i with
   |zero=>cases h2
   |succ i=>
    have h1:fs[i]?=some y:=h1;have h2:(ix.map λi=>(σ[i]?).join)[i]?=some (some v):=h2;have hy:=S.fs y (List.mem_of_getElem? h1);rw[List.getElem?_map] at h2;cases ej:ix[i]? with
    |none=>rw[ej] at h2;cases h2
    |some j=>
     rw[ej] at h2;have h2:(σ[j]?).join=some v:=Option.some.inj h2;have hσ:σ[j]?=some (some v):=by
      cases q:σ[j]? with
      |none=>rw[q] at h2;cases h2
      |some o=>rw[q] at h2;cases o with
       |none=>cases h2
       |some o=>cases h2;rfl
     have hN:X.N[j]?=some y:=by
      have z:=congrArg (·[i]?) hix;simp only[List.getElem?_map,ej,h1,Option.map_some] at z;exact Option.some.inj z
     have kf:=S.fr _ (PySem.mem_of_lookup hy) rfl;obtain⟨m,hn,hl⟩:=I3.loc;obtain⟨u,r,l⟩:=hl j y v hN hσ (by rcases kf with k|k;exact .inr (.inl k);exact .inr (.inr k));refine⟨u,r,.inr ⟨PU hy,?_⟩⟩;rcases l with ⟨l,_⟩|⟨_,c,e,z⟩
     ·rcases kf with k|k<;>(rw[l] at k;cases k)
     ·obtain⟨c',e'⟩:=c2 y (PySem.mem_of_lookup hy);have q:=c1 _ _ e';rw[e] at q;cases q;exact⟨c,e',cellUp _ _ z⟩
  ·obtain⟨v,z⟩:=I3.cell y c (c1 _ _ e);exact⟨v,cellUp _ _ z⟩
  ·have z:=congrArg List.length hix;simp only[List.length_map] at z;show (none::_:St).length=(x::fs).length;simp only[List.length_cons,List.length_map,z]
 have back:∀{xe σ' H' s'},jA (WA X scope cl e3.heap.objs.size (x::fs) e3 H3 fp xe) [] σ' H' s'->jA X pins σ H' s':=λ{xe σ' H' s'} J=>
  I3.call' (s':=s') (ch:=fp) J.os J.base J.hok J.bare λb hb=>⟨(f3 b hb).2.2.2.1,(f3 b hb).2.1,(f3 b hb).2.2.2.2.1,(f3 b hb).2.2.2.2.2⟩
 have stat:∀{xe} {H':Hp},(∀b∈fp,H' b=none)->∀b∈fp,xC (WA X scope cl e3.heap.objs.size (x::fs) e3 H3 fp xe) [] H' b:=λ{xe H'} hn b hb=>
  ⟨hn b hb,Nat.ne_of_lt (Nat.lt_of_lt_of_le (wB b hb) (by rw[sz3];exact Nat.le_succ _)),nofs b hb,.inl hb,λy c e=>(f3 b hb).2.2.2.2.1 y c (c1 _ _ e),λp hp=>absurd (show p∈([]:List (Addr×Obj)) from hp) (by simp)⟩
 have loop:∀s4:Shared,s4={e3 with heap:=h₁,toks:=e3.toks+([]:List (Str×Value)).length}->
   codeAny (model X.prog X.w) X.A (.compLoop (.ListComp elt [⟨tg,iter,ifs,0⟩] scope pos) 0 (.ref it) (.ref s2.heap.objs.size) (compEnvC scope cl e3.heap.objs.size X.env)) (RR (.ref s2.heap.objs.size) e3.heap.objs.size) s4:=by
  rintro s4 rfl
  let xe:=notedBy (model X.prog X.w) X.A (compEnvC scope cl e3.heap.objs.size X.env) λe s'=>RR (.ref s2.heap.objs.size) e3.heap.objs.size (.error e) s'
  refine qY (λn s'=>∃i ys σ' H',jA (WA X scope cl e3.heap.objs.size (x::fs) e3 H3 fp xe) [] σ' H' s'/\tn i s'.heap/\(∀b∈fp,H' b=none)/\W i n ys σ' H') ?_ m0 ⟨0,[],_,_,J0 xe,hst1,λb hb=>(f3 b hb).1,w0⟩;rintro n s5 ⟨i,ys,σ5,H5,J5,st5,fr5,w5⟩;rcases turn i n ys σ5 H5 w5 with ⟨stop,qn⟩|⟨go,N,hN,step⟩
  ·refine YA (T.done (WA X scope cl e3.heap.objs.size (x::fs) e3 H3 fp xe) rfl rfl rfl (hc _ _ _ _) i [] s5 σ5 H5 xe J5 (stat fr5) st5 stop) λr s6 ⟨hr,J6⟩=>?_;subst hr;obtain⟨m,hn,_⟩:=J6.loc;exact fin _ _ H5 s6 (back J6) qn ⟨m,hn⟩ ⟨J6.free,C0.2⟩
  ·refine YA (T.item (WA X scope cl e3.heap.objs.size (x::fs) e3 H3 fp xe) rfl rfl rfl (hc _ _ _ _) i [] s5 σ5 H5 xe J5 (stat fr5) st5 go) λr s6 ⟨u,hr,h6⟩=>?_;subst hr;refine YA h6 λ_ s7 ⟨y,H7,J7,r7,y7,st7,fr7⟩=>?_;have J7':=J7.pinned (stat fr7) (T.obj _ _ st7);refine YA (hg _ _ _ xe _ s7 σ5 H7 y u _ J7' r7 (step y H7 y7)) λ_ s8 ⟨σ8,H8,J8,q8⟩=>?_;refine YA (hf _ _ _ xe _ s8 σ8 H8 _ J8 q8) λok s8' ⟨H8',J8',q8'⟩=>?_;cases ok with
   |false=>
    obtain⟨m',hm',w9⟩:=hN _ _ _ (by simpa using q8');refine⟨m',hm',i+1,ys,σ8,_,J8'.unpinned,T.keep _ _ _ st7 λb hb o e=>(J8'.pin (b,o) (List.mem_append_right _ (List.mem_append_right _ (bK hb e)))).1,λb hb=>?_,w9⟩;obtain⟨o,e,d⟩:=T.obj _ _ st7 b hb;exact (J8'.pin (b,o) (List.mem_append_right _ (List.mem_append_right _ (bK hb e)))).2.1
   |true=>
   rw[if_pos rfl] at q8' ⊢;refine YA (he _ _ _ xe _ s8' σ8 H8' _ J8' q8') λuv s9 ⟨v,H9,J9,r9,hD9,hl9,n9⟩=>?_;obtain⟨m',hm',w9⟩:=hN _ _ _ n9;refine YA (CF (X:=WA X scope cl e3.heap.objs.size (x::fs) e3 H3 fp xe) _ s9 σ8 H9 (.ref s2.heap.objs.size) [v] _ [uv] (λ_ H'=>H'=upd H9 s2.heap.objs.size (.lst (ys++[v]))) J9 rfl (.cons r9 .nil) ⟨_,ys,v,rfl,rfl,hD9,hl9,rfl⟩) λ_ s10 ⟨_,H10,J10,_,eH⟩=>?_;subst eH;refine⟨m',hm',i+1,ys++[v],σ8,_,J10.unpinned,T.keep _ _ _ st7 λb hb o e=>(J10.pin (b,o) (List.mem_append_right _ (List.mem_append_right _ (bK hb e)))).1,λb hb=>?_,w9⟩;obtain⟨o,e,d⟩:=T.obj _ _ st7 b hb;exact (J10.pin (b,o) (List.mem_append_right _ (List.mem_append_right _ (bK hb e)))).2.1
 subst he3;exact codeAny_compStart_list (loop _ rfl) (T.self X.A 0 _ _ _ hst1 (loop _ rfl))
theorem AC.clos {pins:List (Addr×Obj)} {σ:St} {H:Hp} {s:Shared} {scope:Scope} {x:Str} {fs:List Str} (S:AC scope X.env x fs) (I:jA X pins σ H s):
  ∃cl,closureFor scope X.env=pure cl/\(∀n c,cl.lookup n=some c->X.env.cells.lookup n=some c)/\∀n,(n,NameKind.free)∈scope.names->∃c,cl.lookup n=some c:=
 pY λn hn=>I.ok.has n (S.fr _ hn rfl)
theorem sF {tg iter elt:Expr} {ifs:List Expr} {scope:Scope} {pos:Pos} {x:Str} {fs:List Str} {ix:List Nat} {wi:TI} {g:TG} {tt:TT} {te:TE} (hc:X.calm=true) (hi:PI X tg iter wi) (hk:WC scope X.env x fs=true) (hix:ix.map (X.N[·]?)=fs.map some)
  (hg:∀cl C s₀ H₀ fp xe,PG (WA X scope cl C (x::fs) s₀ H₀ fp xe) tg g) (hf:∀cl C s₀ H₀ fp xe,PF (WA X scope cl C (x::fs) s₀ H₀ fp xe) ifs tt) (he:∀cl C s₀ H₀ fp xe,PE (WA X scope cl C (x::fs) s₀ H₀ fp xe) elt te) (hs:∀x,foldedSetIterable iter X.env x=pure x:=by intro _;rfl):
  PE X (.ListComp elt [⟨tg,iter,ifs,0⟩] scope pos) (NF wi ix g tt te .mk):=by
 intro pins s σ H Q I h;have S:=AC.of hk;obtain⟨cl,hcl,c1,c2⟩:=S.clos I;rw[eval_ListComp];refine wpAny_comprehension_free (use:=none) rfl hs hcl S.kind S.own (YA (hi pins s σ H _ I h) λv s1 h1=>YA h1 λitv s2 h2=>?_);obtain⟨it,fp,tn,J,H2,e,I2,T,st2,f2,q⟩:=h2;subst e;refine QU (RR:=λacc C=>compPost (model X.prog X.w) X.A X.xe none (EP X pins σ Q) acc C) I2 T.g st2 f2 (λ_ _ _ _=>hc) S c1 c2 hix (λC s₀ H₀ xe=>hg cl C s₀ H₀ fp xe) (λC s₀ H₀ xe=>hf cl C s₀ H₀ fp xe) (λC s₀ H₀ xe=>he cl C s₀ H₀ fp xe) q λD C H' s' I' q' ⟨m,hn⟩ ⟨f0,f1,_,f3,f4,f5⟩=>?_;exact⟨m,hn,λh' hs'=>⟨.ref D,H',I'.turned (t':=s'.toks) (λb o hb e=>(hs'.2 b hb).trans e) f0 f1 f3 f4 f5,rfl,q'⟩⟩
theorem qL {tg iter elt:Expr} {ifs:List Expr} {scope:Scope} {pos spos py:Pos} {x y:Str} {i:Nat} {fs:List Str} {ix:List Nat} {wi:TI} {g:TG} {tt:TT} {te:TE} (hN:X.N.Nodup) (hy:X.N[i]?=some y) (hl:X.env.kindOf y=some .local) (hc:X.calm=true) (hi:PI X tg iter wi)
  (hk:WC scope X.env x fs=true) (hix:ix.map (X.N[·]?)=fs.map some)
  (hg:∀cl C s₀ H₀ fp xe,PG (WA X scope cl C (x::fs) s₀ H₀ fp xe) tg g) (hf:∀cl C s₀ H₀ fp xe,PF (WA X scope cl C (x::fs) s₀ H₀ fp xe) ifs tt) (he:∀cl C s₀ H₀ fp xe,PE (WA X scope cl C (x::fs) s₀ H₀ fp xe) elt te)
  (hsw:swapsWith (.ListComp elt [⟨tg,iter,ifs,0⟩] scope pos) (some (.Name y py)) spos.line X.env=pure true:=by rfl) (hs:∀x,foldedSetIterable iter X.env x=pure x:=by intro _;rfl):
  PS X (.Assign [.Name y py] (.ListComp elt [⟨tg,iter,ifs,0⟩] scope pos) spos) (tG (NF wi ix g tt te .mk) (yD i)):=by
 intro pins s σ H D I h;have S:=AC.of hk;obtain⟨cl,hcl,c1,c2⟩:=S.clos I;rw[exec_Assign_Name_used _ _ _ _ hsw];refine wpAny_bind (wpAny_standAt (wpAny_bind ?_));show wpAny _ X.A (do let _<-comprehension (.ListComp elt [⟨tg,iter,ifs,0⟩] scope pos) scope X.env _ (newList []) false (eval iter X.env) (some (assign (.Name y py) X.env))) _ _ s;refine wpAny_bind (wpAny_mono (wpAny_comprehension_free (use:=some (assign (.Name y py) X.env)) (Q:=λ_ s'=>SP X pins D .next s') rfl hs hcl S.kind S.own
  (YA (hi pins s σ H _ I h) λv s1 h1=>YA h1 λitv s2 h2=>?_)) (λ_ s' hq=>wpAny_pure (wpAny_pure hq)) λ_ _ e=>e)
 obtain⟨it,fp,tn,J,H2,e,I2,T,st2,f2,q⟩:=h2;subst e;refine QU (RR:=λacc C=>compPost (model X.prog X.w) X.A X.xe (some (assign (.Name y py) X.env)) (λ_ s'=>SP X pins D .next s') acc C) I2 T.g st2 f2 (λ_ _ _ _=>hc) S c1 c2 hix (λC s₀ H₀ xe=>hg cl C s₀ H₀ fp xe) (λC s₀ H₀ xe=>hf cl C s₀ H₀ fp xe) (λC s₀ H₀ xe=>he cl C s₀ H₀ fp xe) q
  λD' C H' s' I' q' ⟨m,hn⟩ ⟨f0,f1,_,f3,f4,f5⟩=>?_
 show wpAny _ X.A (assign (.Name y py) X.env (.ref D')) _ _ _;refine wpAny_assign_Name (NT (v:=.ref D') I' hN hy (.inl hl) rfl (λs'' I'' ⟨a,sb,ha⟩=>?_) (.inr hl));have hne:C≠a:=by
  rcases ha with ha|ha
  ·rw[ha];exact f1
  ·exact λz=>f4 _ _ ha z.symm
 exact⟨m,hn.sameBut sb hne,λh' hs'=>⟨_,H',I''.turned (t':=s''.toks) (λb o hb e=>(hs'.2 b hb).trans e) f0 f1 f3 f4 f5,q'⟩⟩
end
end L2
namespace L2
open PySem PySem.Spec PyProof.Rows
section
variable {X:Cx} {pins:List (Addr×Obj)} {σ:List (Option V)} {H H':Hp} {s:Shared} {h':Heap}
theorem jA.turnedL {t':Nat} {ch:List Addr} (I:jA X pins σ H s) (k:∀b o,b∉ch->s.heap.get? b=some o->h'.get? b=some o) (hf:∀b∈ch,xC X pins H b):jA X pins σ H {s with heap:=h',toks:=t'}:=by
 have nit:∀b u,H b=some u->b∉ch:=λb u e z=>by rw[(hf b z).1] at e;cases e
 refine I.step (g':=s.gens) (d':=s.drawn) (ch:=ch) (λb hb=>⟨(hf b hb).2.2.2.1,(hf b hb).2.1,(hf b hb).2.2.2.2.1,(hf b hb).2.2.2.2.2⟩) (λb o _ _ hc e _=>k b o hc e) (λb o _ _ hc e _=>⟨o.slots,k b o hc e⟩) (λ_ _ _ _ n=>n)
  (λb o hc e=>⟨o,k b o hc e⟩) (λ_ _ e=>e) (λ_ _ _ e=>e) (λb ps e=>⟨#[],by rw[e];simp⟩) (λm hm=>?_) (λb u e=>?_) I.bare
 ·obtain⟨o,es,ep,ho,r⟩:=hm;exact⟨o,es,ep,k _ o (λz=>(hf _ z).2.1 rfl) ho,r⟩
 ·refine (I.hok b u e).stay (λc v hc q=>k c v ?_ q) (λ_ q=>q) λ_ _ q=>q;rcases hc with z|z
  ·rw[z];exact nit b u e
  ·exact nit c _ z
end
noncomputable def MO (K:PySem.W.Frag) (a:Addr):It:=
 ⟨λi H=>∃xs x,kA K H a xs/\xs[i]?=some x,λi H v H'=>∃t x,v=.ref t/\H t=none/\H'=upd H t (.tup [.int i,x])/\∀xs,kA K H a xs->xs[i]?=some x,λi H=>∃xs,kA K H a xs/\xs.length<=i⟩
theorem rY {P:Program} {w:World} {K:PySem.W.Frag} {elts:List Expr} {x1} {pos:Pos} (a e it:Addr) (hne:e≠it):
  uE P w K (.Tuple elts x1 pos) (MO K a) [e,it] e (λi h=>(∃old,IsEnum h e it i old)/\h.IsListIter it a i) where
 mem:=by simp
 obj:=λi h st b hb=>by
  obtain⟨⟨old,he⟩,o,ho,c,d⟩:=st;have hb:b=e\/b=it:=by simpa using hb
  rcases hb with rfl|rfl
  ·exact⟨_,he,λv z=>by
    have z':Data.fields _=Data.cell v:=z;cases z'⟩
  ·exact⟨o,ho,λv z=>by rw[d] at z;cases z⟩
 keep:=λi h h' st k=>⟨let ⟨old,he⟩:=st.1;⟨old,k e (by simp) _ he⟩,st.2.at λo q=>k it (by simp) o q⟩
 item:=by
  intro X hP hw hK hc i pins s σ H E I hf st hg;subst hP hw hK;obtain⟨xs,x,hq,hx⟩:=hg;obtain⟨its,rv,p,hz⟩:=I.list hq;obtain⟨u,hu,ru⟩:=rv.get hx;obtain⟨⟨old,he⟩,hit⟩:=st;refine wpAny_pyNext_enum_item he hit p.isList (x:=u) (by simpa using hu) hne λh1 eo hit1 ht hsz kk=>?_;refine⟨_,rfl,wpAny_letOwnedTupleGo_enum eo λh2 en sb=>?_⟩;have hT:H s.heap.objs.size=none:=I.hok.fresh (Nat.le_refl _);have hef:e≠s.heap.objs.size:=Nat.ne_of_lt (Heap.lt_size he);have hif:it≠s.heap.objs.size:=Nat.ne_of_lt (let ⟨_,ho,_⟩:=hit;Heap.lt_size ho);have ht2:h2.get? s.heap.objs.size=some {cls:=.type "tuple",data:=.seq #[.int i s.toks,u]}:=(sb.2 _ (Ne.symm hef)).trans ht;have I1:jA X pins σ (upd H s.heap.objs.size (.tup [.int i,x])) {s with heap:=s.heap.push {cls:=.type "tuple",data:=.seq #[.int i s.toks,u]}}:=
   I.laid (t':=s.toks) (λb o q=>Heap.get?_push_of_some _ q) (Nat.le_refl _) ⟨by show 2<=sizeLine;decide,[.int i s.toks,u],.cons ⟨_,rfl⟩ (.cons ru .nil),⟨_,Heap.get?_push_size _ rfl,rfl,_,rfl⟩⟩
  have hf1:∀b∈[e,it],xC X pins (upd H s.heap.objs.size (.tup [.int i,x])) b:=λb hb=>by
   refine⟨?_,(hf b hb).2⟩;have hb':b=e\/b=it:=by simpa using hb
   rw[oA (by rcases hb' with rfl|rfl;exact hef;exact hif)];exact (hf b hb).1
  have I2:jA X pins σ (upd H s.heap.objs.size (.tup [.int i,x])) {s with heap:=h2,toks:=s.toks+1}:=by
   have J:=jA.turnedL (t':=s.toks+1) (h':=h2) (ch:=[e,it]) I1 ?k hf1
   ·exact J
   intro b o hb q;dsimp only at q;have hb1:b≠e:=λz=>hb (by simp[z]);have hb2:b≠it:=λz=>hb (by simp[z]);rcases PySem.Heap.get?_push_cases q with ⟨rfl,rfl⟩|q
   ·exact ht2
   ·exact (sb.2 b hb1).trans (kk b o hb1 hb2 q)
  refine⟨.ref s.heap.objs.size,_,I2,rfl,⟨_,x,rfl,hT,rfl,λys hy=>by rw[I.list_inj hy hq];exact hx⟩,⟨⟨_,en⟩,hit1.extBut sb.extBut (Ne.symm hne)⟩,λb hb=>(hf1 b hb).1⟩
 done:=by
  intro X hP hw hK hc i pins s σ H E I hf st hg;subst hP hw hK;obtain⟨xs,hq,hx⟩:=hg;obtain⟨its,rv,p,hz⟩:=I.list hq;obtain⟨⟨old,he⟩,hit⟩:=st;obtain⟨f0,f1,f2,f3,f4,f5⟩:=hf it (by simp);have hl:=rv.length;exact wpAny_pyNext_enum_end (I.ok.hd hc) he hit p.isList (by simp;omega) λh' eb=>⟨rfl,I.turned (t':=s.toks) (λb o hb e=>eb b o hb e) f0 f1 f3 f4 f5⟩
 self:=λ_ _ _ _ _ st h=>let ⟨_,he⟩:=st.1;wpAny_pyIter_enum he h
section
variable {X:Cx}
noncomputable def nH (K:PySem.W.Frag) (ta:TA):TI:=λσ H R=>ta σ H λvs H1=>∃a,vs=[.ref a]/\(∃xs,kA K H1 a xs)/\R (MO K a) H1
theorem sY:bootBuiltins "enumerate"=some (.type "enumerate"):=∅
theorem RU {e:Expr} {ta:TA} {p pos tpos:Pos} {elts:List Expr} {x1} (hg:Gl X "enumerate") (hm:X.mg "enumerate"=none) (ha:PA X [e] ta) (hs:starEach [e] X.env=[(false,eval e X.env)]:=by rfl):
  PI X (.Tuple elts x1 tpos) (.Call (.Name "enumerate" p) [e] [] pos) (nH X.K ta):=by
 intro pins s σ H R I h;refine Call_ (GK I hg hm sY (PyProof.Rows.callWith_type1 (YA (ha pos pins s σ H _ I h) λus s1 ⟨vs,H1,I1,r1,q1⟩=>?_) hs rfl));obtain⟨a,ev,⟨xs,hq⟩,q⟩:=q1;subst ev;cases r1 with
 |cons r rr=>
  cases rr;cases r;obtain⟨its,rv,pl,hz⟩:=I1.list hq;refine call_enumerate_list pl.isList λh' he hit hsz kk=>wpAny_pyIter_enum he ?_;have I2:jA X pins σ H1 {s1 with heap:=h'}:=I1.kept (t':=s1.toks) kk;refine⟨s1.heap.objs.size+1,[s1.heap.objs.size+1,s1.heap.objs.size],_,_,H1,rfl,I2,rY a _ _ (Nat.ne_of_gt (Nat.lt_succ_self _)),⟨⟨_,he⟩,hit⟩,λb hb=>?_,q⟩;have hb:b=s1.heap.objs.size+1\/b=s1.heap.objs.size:=by simpa using hb
  have hle:s1.heap.objs.size<=b:=by rcases hb with rfl|rfl;exact Nat.le_succ _;exact Nat.le_refl _
  exact I1.fpOk hle (I1.hok.fresh hle)
end
theorem SU {K:PySem.W.Frag} {a:Addr} {xs:List V} {g:TG} {tb:TS} {h:dF g tb} {D:fC} {σ:St} {H:Hp} (Pv:Nat->St->Hp->Prop) (h0:Pv 0 σ H) (hl:∀i σ H,i<=xs.length->Pv i σ H->kA K H a xs)
  (hs:∀i x t σ H,xs[i]?=some x->Pv i σ H->H t=none->g (.ref t) σ (upd H t (.tup [.int i,x])) λσ2 H2=>tb {D with nx:=Pv (i+1),ct:=Pv (i+1),bk:=D.nx} σ2 H2) (hd:∀σ H,Pv xs.length σ H->D.nx σ H):BG g tb h (MO K a) D σ H:=by
 refine⟨λi m σ H=>i+m=xs.length/\Pv i σ H,⟨xs.length,Nat.zero_add _,h0⟩,λi m σ H ⟨e,p⟩=>?_⟩;have hq:=hl i σ H ⋯ p;by_cases hi:i < xs.length
 ·have ex:xs[i]?=some xs[i]:=List.getElem?_eq_getElem hi;refine .inr ⟨⟨xs,_,hq,ex⟩,Pv (i+1),λσ H q=>⟨m - 1,⋯,⋯,q⟩,?_⟩;rintro y H' ⟨t,x,rfl,ht,rfl,hy⟩;exact hs i x t σ H (hy xs hq) p ht
 ·have e':i=xs.length:=⋯;subst e';exact .inl ⟨⟨xs,hq,Nat.le_refl _⟩,hd σ H p⟩
end L2
namespace L2
open PySem PySem.Spec PyProof.Rows
section
variable {X:Cx} {pins:List (Addr×Obj)} {σ:St} {H:Hp} {s:Shared} {a:Addr} {kvs:List (Key×V)} {k:Key} {u r:Value} {z:V} {A:Around} {E:Value->Shared->Prop}
end
section
variable {X:Cx} {o e f:Expr} {apos cpos:Pos} {td ty tx:TE}
end
theorem TU:∀{bs:List Bool} {us:List Value},pA (bs.map V.bl) us->LSm.BoolsAre us bs
 |[],_,h=>by cases h;exact .nil
 |b::bs,_,h=>by
  cases h with
  |cons r rr=>
   cases r;exact .cons _ (TU rr)
theorem tY {X:Cx} (hc:X.calm=true):lC X (.builtin "any") (λxs H Q=>∃(p:Addr) (bs:List Bool),xs=[.ref p]/\kA X.K H p (bs.map V.bl)/\Q (.bl (bs.any id)) H):=by
 intro pins s σ H xs us Q I r h;obtain⟨p,bs,rfl,hq,q⟩:=h;obtain⟨u,rfl,rx⟩:=AD r;cases rx;obtain⟨its,r',pl,hz⟩:=I.list hq;have hb:=TU r';have hl:=pl.isList;have hlt:p < s.heap.objs.size:=by obtain⟨_,e,_⟩:=id hl;exact Heap.lt_size e
 refine call_any_walk (wpAny_pyIter_list hl ?_);refine⟨s.heap.objs.size,[s.heap.objs.size,p],[s.heap.objs.size],its.toArray.size,_,_,λi=>(bs[i]?).getD false,rfl,Walks.list (A:=X.A.in1) (I.ok.hd hc) _ p (Nat.ne_of_lt hlt) its.toArray,
  ⟨⟨_,Heap.get?_push_size _ rfl,rfl,rfl⟩,hl.push _⟩,λi v s' Q' E' hP hQ=>?_,λh' tk hk=>?_⟩
 ·obtain⟨b,e,rfl⟩:=hb.get i v (by simpa using hP);simp only[e,Option.getD_some] at hQ;exact wpAny_truthy_bool hQ
 ·have e:((List.range its.toArray.size).any λi=>(bs[i]?).getD false)=bs.any id:=by
   rw[List.size_toArray,hb.length];exact LSm.range_any bs
  rw[e];exact⟨.bl (bs.any id),H,I.kept (t':=tk) (LSm.kept_iter hk),rfl,q⟩
inductive HI (c:TT) (tb:TS):Type where
 |mk:HI c tb
inductive II (tb:TS):Type where
 |mk:II tb
noncomputable def oH (c:TT) (tb:TS) (_:HI c tb):TS:=yF c tb
noncomputable def pH (tb:TS) (_:II tb) (Pv:Nat->St->Hp->Prop) (m:Nat) (D:fC) (σ:St) (H:Hp):Prop:=
 ∃N:St->Hp->Prop,(∀σ' H',N σ' H'->∃m',m' < m/\Pv m' σ' H')/\tb {D with nx:=N,ct:=N,bk:=D.nx} σ H
theorem UU {X:Cx} {c:Expr} {body:List Stmt} {tc:TT} {tb:TS} {pos:Pos} (hp:PassesOwn (model X.prog X.w) X.A X.env X.xe) (hc:PT X c tc) (hb:WD X body tb):PS X (.While c body [] pos) (oH tc tb .mk):=mX hp hc hb
theorem VU {c:TT} {tb:TS} {h:HI c tb} {D:fC} {σ:St} {H:Hp} (Pv:Nat->St->Hp->Prop) (m0:Nat) (h0:Pv m0 σ H)
 (hs:∀m σ H,Pv m σ H->c σ H λb H1=>if b=true then pH tb .mk Pv m D σ H1 else D.nx σ H1):oH c tb h D σ H:=⟨Pv,⟨m0,h0⟩,hs⟩
theorem qH {tb:TS} {h:II tb} {Pv:Nat->St->Hp->Prop} {m:Nat} {D:fC} {σ:St} {H:Hp}
 (q:tb {D with nx:=λσ' H'=>∃m',m' < m/\Pv m' σ' H',ct:=λσ' H'=>∃m',m' < m/\Pv m' σ' H',bk:=D.nx} σ H):pH tb h Pv m D σ H:=⟨_,λ_ _ h=>h,q⟩
end L2
namespace L2
open PySem PySem.Spec PyProof.Rows
section
variable {X:Cx} {pins:List (Addr×Obj)} {σ:List (Option V)} {H:Hp} {s:Shared} {a:Addr}
theorem jA.rewrite {u v:HO} (I:jA X pins σ H s) (e:H a=some u) (hn:∀b,u≠.own b) (ht:∀xs,u≠.tup xs) (h0:∀w,X.H₀ a=some w->(∃o z,w=.frz o z)\/(∃xs,w=.tup xs)\/(∃ps,w=.tbl ps)->False) (new:CA X.prog X.w (upd H a v) s.heap a v):
  jA X pins σ (upd H a v) s where
 ok:=I.ok
 os:=I.os
 bare:=I.bare
 base:=⟨I.base.keep,I.base.slot,λb o q n hx=>by
   have:=I.base.free b o q n hx;rw[oA (λz=>by rw[z,e] at this;cases this)];exact this,I.base.there,
  λb xs q=>by
   have hb:b≠a:=λz=>h0 _ (z ▸ q) (.inr (.inl ⟨_,rfl⟩));rw[oA hb];exact I.base.tups b xs q,
  λb o z q=>by
   have hb:b≠a:=λz=>h0 _ (z ▸ q) (.inl ⟨_,_,rfl⟩);rw[oA hb];exact I.base.frzs b o z q,
  λb ps q=>by
   have hb:b≠a:=λz=>h0 _ (z ▸ q) (.inr (.inr ⟨_,rfl⟩));rw[oA hb];exact I.base.tbls b ps q⟩
 loc:=I.loc
 cell:=I.cell
 free:=by rw[oA (Ne.symm (BB e I.free))];exact I.free
 freeC:=λx c q=>by
  have:=I.freeC x c q;rw[oA (Ne.symm (BB e this))];exact this
 pin:=λp hp=>by
  obtain⟨p1,p2,p3⟩:=I.pin p hp;exact⟨p1,by rw[oA (Ne.symm (BB e p2))];exact p2,p3⟩
 hok:=λb w q=>by
  by_cases hb:b=a
  ·subst hb;rw[OA] at q;cases q;exact new
  ·rw[oA hb] at q;refine (I.hok b w q).stay (λ_ _ _ q=>q) (λc q=>?_) λc xs q=>?_
   ·rw[oA (λz=>by rw[z,e] at q;exact hn _ (Option.some.inj q))];exact q
   ·rw[oA (λz=>by rw[z,e] at q;exact ht _ (Option.some.inj q))];exact q
 len:=I.len
theorem jA.still {w:HO} (I:jA X pins σ H s) (h:X.H₀ a=some w) (hw:(∃o z,w=.frz o z)\/(∃xs,w=.tup xs)\/(∃ps,w=.tbl ps)):(∃o z,H a=some (.frz o z))\/(∃xs,H a=some (.tup xs))\/(∃ps,H a=some (.tbl ps)):=by
 rcases hw with ⟨o,z,rfl⟩|⟨xs,rfl⟩|⟨ps,rfl⟩
 ·exact .inl ⟨o,z,I.base.frzs a o z h⟩
 ·exact .inr (.inl ⟨xs,I.base.tups a xs h⟩)
 ·obtain⟨m,e⟩:=I.base.tbls a ps h;exact .inr (.inr ⟨_,e⟩)
end
end L2
namespace L2
open PySem PySem.Spec PyProof.Rows
end L2
namespace L2
open PySem PySem.Spec PyProof.Rows
noncomputable def EG (xs:List V):List Dv:=xs.map .leaf
theorem WU {K:PySem.W.Frag} {H:Hp}:∀(xs:List V),xs.all JB=true->zA K H (EG xs) xs
 |[],_=>by unfold EG zA;rfl
 |x::xs,h=>by
  rw[List.all_cons,Bool.and_eq_true] at h;show zA K H (.leaf x::EG xs) (x::xs);unfold zA;exact⟨_,_,rfl,by unfold vB;exact⟨rfl,h.1⟩,WU xs h.2⟩
theorem uY {K:PySem.W.Frag} {H:Hp} {a:Addr} {xs:List V} (h:cB K H a xs) (hf:xs.all JB=true):vB K H (.seq true (EG xs)) (.ref a):=by
 unfold vB;exact⟨a,_,rfl,by simpa using h,WU xs hf⟩
theorem NO:∀(xs:List V),vA (EG xs)=0
 |[]=>by unfold EG;simp[vA]
 |x::xs=>by
  show vA (.leaf x::EG xs)=0;rw[vA,kB,NO xs];rfl
end L2
namespace L2
open PySem PySem.Spec PyProof.Rows
end L2
namespace L2
open PySem PySem.Spec PyProof.Rows
theorem XU {X:Cx} {K:PySem.W.Frag} (h:X.K=K):mG X (aF K):=h ▸ oC
theorem FG {X:Cx} {K:PySem.W.Frag} (h:X.K=K):mG X (xG K):=h ▸ SA
end L2
namespace L2
open PySem PySem.Spec PyProof.Rows
structure OF (K:PySem.W.Frag) (x qual:Str) (st:Stmt) (f:Addr) (fd:FuncData):Prop where
 ex:∃(oc:Value) (od:Option Addr) (dV kV doc pm:Value) (an:Option Addr) (cdv ct:Value) (osl:Array (Option Value)),
  fd=PySem.W.fnOf x qual (fB st) (RA st) (bA st) dV kV doc pm an cdv ct/\K.lookup f=some ⟨oc,od,.func fd,osl⟩/\PySem.W.codeIn K cdv qual=true
 kp:PySem.W.keepIn K (.ref f)=true
section
variable {P:Program} {w:World} {K:PySem.W.Frag} {mg:Str->Option Value} {base:Heap}
theorem OF.okE {x qual:Str} {st:Stmt} {f:Addr} {fd:FuncData} {N ps:List Str} {k:Nat} {sp:Sp} (F:OF K x qual st f fd) (S:fA N ps (bA st)) (len:∀vs H Q E,sp vs H Q E->vs.length=ps.length)
  (hbody:RD P w K mg base qual st N k sp):zC P w K mg base (dE P w) (k+1) f fd ps sp:=by
 obtain⟨oc,od,dV,kV,doc,pm,an,cdv,ct,osl,rfl,lk,hcd⟩:=F.ex;exact oO lk hcd S len λA outer s H vs Q E hr hsp=>hbody f cdv A outer s H vs Q E hr hsp
noncomputable def rH (K:PySem.W.Frag) (C:Addr) (m qual:Str) (st:Stmt) (ps:List Str) (dvs:List V):Prop:=∃f fd ds,xE K C m f/\OF K m qual st f fd/\VB K fd ps ds/\pA dvs ds
noncomputable def sH (K:PySem.W.Frag) (mg:Str->Option Value) (x:Str) (C:Addr) (qual:Str) (st:Stmt) (ps:List Str) (dvs:List V):Prop:=∃f fd ds,mg x=some (.ref C)/\Mk K C f/\OF K "__init__" qual st f fd/\VB K fd ps ds/\pA dvs ds
theorem rH.have {C:Addr} {m qual:Str} {st:Stmt} {N ps:List Str} {dvs:List V} {k:Nat} {sp:Sp} (R:rH K C m qual st ps dvs) (S:fA N ps (bA st)) (len:∀vs H Q E,sp vs H Q E->vs.length=ps.length)
  (hbody:RD P w K mg base qual st N k sp):FA P w K mg base C m (k+1) ps dvs sp:=
 let ⟨f,fd,ds,hm,F,hb,hd⟩:=R
 ⟨f,fd,ds,hm,hb,hd,F.okE S len hbody⟩
theorem sH.have {C:Addr} {x qual:Str} {st:Stmt} {N ps:List Str} {dvs:List V} {k:Nat} {sp:Sp} (R:sH K mg x C qual st ps dvs) (S:fA N ps (bA st)) (len:∀vs H Q E,sp vs H Q E->vs.length=ps.length)
  (hbody:RD P w K mg base qual st N k sp):BD P w K mg base x C (k+1) ps dvs sp:=
 let ⟨f,fd,ds,hm,M,F,hb,hd⟩:=R
 ⟨f,fd,ds,hm,M,hb,hd,F.okE S len hbody⟩
end
end L2
namespace L2
open PySem PySem.Spec PyProof.Rows
end L2
namespace L2
open PySem PySem.Spec PyProof.Rows
end L2
namespace L2
open PySem PySem.Spec PyProof.Rows
noncomputable def rL (K:PySem.W.Frag):R2:=λx y H Q=>xG K x y H Q\/aF K x y H Q
theorem YU {X:Cx}:mG X (rL X.K):=SA.or oC
section
variable {X:Cx}
end
theorem pA.at {xs:List V} {us:List Value} (r:pA xs us) (m:Nat) (h1:m < xs.length) (h2:m < us.length):sA xs[m] us[m]:=by
 obtain⟨u,hu,ru⟩:=r.get (List.getElem?_eq_getElem h1);rw[List.getElem?_eq_getElem h2] at hu;cases hu;exact ru
end L2
namespace L2
open PySem PySem.Spec PyProof.Rows
end L2
namespace L2
open PySem PySem.Spec PyProof.Rows
section
variable {prog:Program} {w:World} {K:Type} [DecidableEq K] {knd:HeapKind prog w K} {A:Around} {E:Value->Shared->Prop} {s:Shared}
end
end L2
namespace L2
open PySem PySem.Spec PyProof.Rows
noncomputable def LC (h:Heap) (d:Addr) (es:Array DictEntry) (ep:Nat):Prop:=∃o,h.get? d=some o/\o.ExactDict/\o.data=.dict es ep
theorem LC.ty {s:Shared} {d:Addr} {es:Array DictEntry} {ep:Nat} (r:LC s.heap d es ep):s.TypeIs (.ref d) "dict":=let ⟨o,ho,hc,_⟩:=r;⟨o,ho,hc.1⟩
theorem LC.lt {h:Heap} {d:Addr} {es:Array DictEntry} {ep:Nat} (r:LC h d es ep):d < h.objs.size:=let ⟨_,ho,_⟩:=r;Heap.lt_size ho
theorem LC.kept {h h':Heap} {d:Addr} {es:Array DictEntry} {ep:Nat} (r:LC h d es ep) (k:∀o,h.get? d=some o->h'.get? d=some o):LC h' d es ep:=let ⟨o,ho,q⟩:=r;⟨o,k _ ho,q⟩
section
variable {prog:Program} {w:World} {A:Around} {E:Value->Shared->Prop} {s:Shared} {d it:Addr} {es:Array DictEntry} {ep i:Nat}
theorem ZU {Q:Value->Shared->Prop} (nd:(d == sysModules)=false) (r:LC s.heap d es ep)
  (q:Q (.ref s.heap.objs.size) {s with heap:=s.heap.push {cls:=.type "dict_keyiterator",data:=.fields #[.ref d,.int 0 0,.int es.size 0,.int ep 0]}}):wpAny (model prog w) A (pyIter (.ref d)) Q E s:=by
 obtain⟨o,e0,ec,ed⟩:=id r;refine wpAny_pyIter_slot r.ty PySem.F.slot_dict_iter (wpAny_call_entry PySem.F.slot_dict_iter r.ty PySem.F.entry_dict_iter ?_ (PySem.F.args_dict_iter_1 _));unfold Builtin.«dict.__iter__» Builtin.Dict.dictSlotNone Builtin.Dict.showsAll;refine wpAny_bind (wpAny_bind (wpAny_notOrdered_dict r.ty (wpAny_pure ?_)));refine wpAny_bind (m:=if d == sysModules then _ else _) ?_;rw[if_neg (by rw[nd];exact Bool.false_ne_true)];refine wpAny_pure (wpAny_bind (wpAny_dictEntries e0 ed (wpAny_bind (wpAny_dictEpoch e0 ed ?_))));exact wpAny_bind (wpAny_newObj_type (wpAny_pure ⟨_,rfl,"dict_keyiterator",_,⟨_,Heap.get?_push_size _ rfl,rfl⟩,PySem.F.slot_dict_keyiterator_next.lookup,by simpa[rawInt] using q⟩))
theorem aV {Q:Option Value->Shared->Prop} (t:s.heap.IsKeyIter it d i es.size ep) (r:LC s.heap d es ep) (hi:i < es.size)
  (q:∀h',h'.IsKeyIter it d (i+1) es.size ep->Heap.SameBut it s.heap h'->Q (some es[i].key) {s with heap:=h'}):wpAny (model prog w) A (pyNext (.ref it)) Q E s:=by
 obtain⟨b,b0,bc,bd⟩:=id t;obtain⟨o,e0,ec,ed⟩:=id r;unfold pyNext;refine wpAny_bind (wpAny_attempt (wpAny_callSpecial?_slot (name:=Str.ofString "__next__") t.typeIs PySem.F.slot_dict_keyiterator_next (wpAny_call_entry PySem.F.slot_dict_keyiterator_next t.typeIs PySem.F.entry_dict_keyiterator_next ?_ (PySem.F.args_dict_keyiterator_next_1 _))));refine wpAny_bind (wpAny_pure (wpAny_bind (wpAny_bind (wpAny_bind (wpAny_typeNameOfWhole_keyiter t.typeIs (wpAny_pure (wpAny_bind (wpAny_fieldsOf b0 bd ?_))))))));simp only[show Builtin.Dict_items.ownsTuple "dict_keyiterator"=false by decide,Bool.false_eq_true,if_false];show wpAny _ _ (if (Value.ref d == Value.none)=true then _ else _) _ _ s;rw[if_neg (show ¬((Value.ref d == Value.none)=true) from Bool.false_ne_true)];refine wpAny_bind (wpAny_pure (wpAny_bind (wpAny_dictEntries e0 ed ?_)));rw[if_neg (by simp)];refine wpAny_bind (wpAny_pure (wpAny_bind (wpAny_dictEpoch e0 ed ?_)));rw[if_neg (by simp)];refine wpAny_pure ?_;simp only[show ¬((i:Int) < 0) from by omega,if_false,Int.toNat_natCast,Array.getElem?_eq_getElem hi];refine wpAny_bind (wpAny_bind (wpAny_typeNameOfWhole_keyiter t.typeIs (wpAny_pure (wpAny_bind (wpAny_isOneOf_keyiter t.typeIs ?_)))));show wpAny _ _ (setField (.ref it) 1 (rawInt ((i:Int)+1)) >>= _) _ _ s;refine wpAny_bind (wpAny_setField b0 bd (by simp) ?_);have t2:(s.heap.update it (Obj.mapFields (·.setIfInBounds 1 (rawInt ((i:Int)+1))))).IsKeyIter it d (i+1) es.size ep:=⟨_,Heap.get?_update_self _ b0 (Obj.isFreed_of_fields (Obj.data_mapFields bd _)),(Obj.cls_mapFields ..).trans bc,by rw[Obj.data_mapFields bd];simp[rawInt]⟩
 refine wpAny_bind (wpAny_holding (wpAny_bind (wpAny_isOneOf_keyiter (s:={s with heap:=s.heap.update it (Obj.mapFields (·.setIfInBounds 1 (rawInt ((i:Int)+1))))}) t2.typeIs ?_)));show wpAny _ _ (pure es[i].key) _ _ _;exact wpAny_pure (wpAny_pure ⟨_,rfl,wpAny_pure (q _ t2 (Heap.SameBut.update ..))⟩)
theorem bV {Q:Option Value->Shared->Prop} (hh:A.handled=none) (t:s.heap.IsKeyIter it d es.size es.size ep) (r:LC s.heap d es ep)
  (q:∀h',Heap.ExtBut it s.heap h'->Q none {s with heap:=h'}):wpAny (model prog w) A (pyNext (.ref it)) Q E s:=by
 obtain⟨b,b0,bc,bd⟩:=id t;obtain⟨o,e0,ec,ed⟩:=id r;unfold pyNext;refine wpAny_bind (wpAny_attempt (wpAny_callSpecial?_slot (name:=Str.ofString "__next__") t.typeIs PySem.F.slot_dict_keyiterator_next (wpAny_call_entry PySem.F.slot_dict_keyiterator_next t.typeIs PySem.F.entry_dict_keyiterator_next ?_ (PySem.F.args_dict_keyiterator_next_1 _))));refine wpAny_bind (wpAny_pure (wpAny_bind (wpAny_bind (wpAny_bind (wpAny_typeNameOfWhole_keyiter t.typeIs (wpAny_pure (wpAny_bind (wpAny_fieldsOf b0 bd ?_))))))));simp only[show Builtin.Dict_items.ownsTuple "dict_keyiterator"=false by decide,Bool.false_eq_true,if_false];show wpAny _ _ (if (Value.ref d == Value.none)=true then _ else _) _ _ s;rw[if_neg (show ¬((Value.ref d == Value.none)=true) from Bool.false_ne_true)];refine wpAny_bind (wpAny_pure (wpAny_bind (wpAny_dictEntries e0 ed ?_)));rw[if_neg (by simp)];refine wpAny_bind (wpAny_pure (wpAny_bind (wpAny_dictEpoch e0 ed ?_)));rw[if_neg (by simp)];refine wpAny_pure ?_;simp only[show ¬((es.size:Int) < 0) from by omega,if_false,Int.toNat_natCast,Array.getElem?_eq_none (Nat.le_refl es.size)];refine wpAny_bind (wpAny_bind (wpAny_typeNameOfWhole_keyiter t.typeIs (wpAny_pure ?_)));show wpAny _ _ (setField (.ref it) 0 .none >>= _) _ _ s;refine wpAny_bind (wpAny_setField b0 bd (by simp) ?_);show wpAny _ _ (newExc (.type "StopIteration") [] >>= _) _ _ _;refine wpAny_bind ?_;simp only[newExc,newTuple];refine wpAny_bind (wpAny_newObj_type (wpAny_bind (m:=firstArgMember _ _) (wpAny_of_eq (a:=Value.none) (by first|rfl|(simp only[firstArgMember];rfl)) (wpAny_newObj_type ?_ (by size_fits)))) (by size_fits));simp only[raiseNew];refine wpAny_bind (wpAny_handled ?_);rw[show A.in1.handled=none from hh];refine wpAny_bind (wpAny_pure (wpAny_throw ?_));refine wpAny_bind (m:=isInstance _ _) (wpAny_isInstance (b:=true) (T:="StopIteration") ⟨_,Heap.get?_push_size _ rfl,rfl⟩ isSubtype_stop ?_);exact wpAny_pure (q _ (((Heap.SameBut.update ..).extBut.push _).push _))
theorem vY (hh:A.handled=none) (I:Addr) (ne:d≠I):Walks prog w A I [I,d] [I] es.size (λi v=>∃h:i < es.size,v=es[i].key) (λi h=>h.IsKeyIter I d i es.size ep/\LC h d es ep) where
 sub:=λb hb=>List.mem_cons.mpr (.inl (List.mem_singleton.mp hb))
 frame:=λ_ _ _ x k=>⟨x.1.at λo e=>k I (List.mem_cons_self ..) o e,x.2.kept λo e=>k d (List.mem_cons_of_mem _ (List.mem_cons_self ..)) o e⟩
 item:=λi s Q E hi x q=>aV x.1 x.2 hi λh' t2 sb=>q _ h' s.toks ⟨hi,rfl⟩ ⟨t2,x.2.kept λo e=>(sb.2 d ne).trans e⟩ λb o hb e=>(sb.2 b λz=>hb (List.mem_singleton.mpr z)).trans e
 done:=λs Q E x q=>bV hh x.1 x.2 λh' eb=>q h' s.toks λb o hb e=>eb b o (λz=>hb (List.mem_singleton.mpr z)) e
 self:=λ_ _ _ _ x q=>wpAny_pyIter_keyiter x.1 q
theorem wY (nd:(d == sysModules)=false):PySem.W.KdlSrc prog w "dict" d d es.size (λi v=>∃h:i < es.size,v=es[i].key) (λh=>LC h d es ep) where
 type:=λ_ r=>r.ty
 there:=λ_ r=>⟨r.lt,r.lt⟩
 keep:=λ_ _ r k=>r.kept λo e=>k d (.inl rfl) o e
 notList:=by decide
 notTuple:=by decide
 hint:=λ_ _ _ _ r q=>PySem.W.kdl_hint_dict r.ty q
 iter:=λ_ _ hh r=>⟨_,_,(λ_ _ q=>ZU nd r q),vY hh _ (Nat.ne_of_lt r.lt),⟨⟨_,Heap.get?_push_size _ rfl,rfl,rfl⟩,r.kept λo e=>Heap.get?_push_of_some _ e⟩⟩
end
noncomputable def fE (H:Hp) (ks:List (List Key)) (vs:List V):Prop:=Paired (λk v=>∃a,v=V.ref a/\H a=some (.tup (k.map kV))) ks vs
end L2
namespace L2
open PySem PySem.Spec PyProof.Rows
section
variable {X:Cx}
end
end L2
namespace L2
open PySem PySem.Spec PyProof.Rows
end L2
namespace L2
open PySem PySem.Spec PyProof.Rows
end L2
namespace L2
open PySem PySem.Spec PyProof.Rows
noncomputable def QF (tk tv:TE):TE:=λσ H Q=>∀p,H p=none->tk σ (upd H p (.dT [])) λx H1=>tv σ H1 λy H2=>H2 p=some (.dT [])/\∃b k,x=.ref b/\H2 b=some (.tup (k.map kV))/\Q (.ref p) (upd H2 p (.dT [(k,y)]))
theorem xY {X:Cx} {pos:Pos} {k v:Expr} {tk tv:TE} (hu:X.A.units+1 < cLine) (hk:PE X k tk) (hv:PE X v tv):PE X (.Dict [some k] [v] pos) (QF tk tv):=by
 intro pins s σ H Q I q;have hn:=I.hok.fresh (Nat.le_refl s.heap.objs.size);have I1:=I.laid (a:=s.heap.objs.size) (o:=.dT []) (h':=s.heap.push {cls:=.type "dict",data:=.dict #[]}) (t':=s.toks) (λ_ _ q=>Heap.get?_push_of_some _ q) (Nat.le_refl _) (yU s.heap I.big);rw[arm_eval_Dict,zip_pairTrees [some k] [v] X.env pos rfl rfl,dictDisplay_pairs (pairTrees [some k] [v] X.env pos) (by intro z;cases z) (by show (1:Nat) < 17;decide)];refine wpAny_bind (wpAny_standAt (wpAny_bind ?_));unfold subDict;refine wpAny_bind (wpAny_alloc ?_);refine wpAny_bind (wpAny_holding ?_);rw[if_pos (by show (1:Nat)<=15;decide)];refine wpAny_bind (pairTrees_cons_walk (YA (hk pins _ σ _ _ I1 (q _ hn)) λu s1 ⟨x,H1,I2,rx,q1⟩=>YA (hv pins s1 σ H1 _ I2 q1) λw2 s2 ⟨y,H2,I3,ry,hp,b,kk,ex,hb,q2⟩=>pairTrees_nil_walk ?_));subst ex;cases (show u=Value.ref b from rx);refine wpAny_holding ?_;obtain⟨z,hd,xs,rel,dd⟩:=eK I3.hok hp;cases rel;rw[List.forIn_cons];dsimp only;refine wpAny_bind (wpAny_bind (wpAny_bind (wpAny_dictSet_heap (hsz:=by rw[sizeLine_eq];exact Nat.zero_le _) (show (tupleKind (QA X.prog X.w)).room X.A from (by omega:X.A.units < cLine)) (TM I3.hok hb) dd λh' dd' hs=>wpAny_pure ?_)));dsimp only;rw[List.forIn_nil];refine wpAny_pure (wpAny_pure ?_);obtain⟨o,es,ep,hq,h2,h3,h4,_,h5⟩:=dd';refine wpAny_pure (wpAny_pure ⟨.ref s.heap.objs.size,_,UM (ob:=.dT [(kk,y)]) I3 (by rw[hp];exact True.intro) hs ⟨o,hq⟩ ⟨by rw[sizeLine_eq];show (1:Nat)<=_;decide,hd,[(kk,b,w2)],.cons ⟨rfl,by rw[oA (bC hb hp (λz=>nomatch z))];exact hb,ry⟩ .nil,o,es,ep,hq,h2,h3,h4,h5⟩,rfl,q2⟩)
section
variable {prog:Program} {w:World} {A:Around} {E:Value->Shared->Prop} {s:Shared}
end
end L2
namespace L2
open PySem PySem.Spec PyProof.Rows
noncomputable def CD (i:Nat):TE:=λσ H Q=>match σ[i]? with
 |some (some v)=>Q v H
 |_=>False
theorem yY {i:Nat} {σ:St} {H:Hp} {Q:VK} (h:CD i σ H Q):lI i σ H Q:=by
 unfold CD at h
 split at h
 ·rename_i v e;exact⟨v,e,h⟩
 ·exact h.elim
theorem aA {X:Cx} (i:Nat) {x:Str} {pos:Pos} (hN:X.N[i]?=some x:=by rfl) (hv:aO X.env.scope x:=by first|exact Or.inl rfl|exact Or.inr (Or.inl rfl)|exact Or.inr (Or.inr rfl)) (hd:(x == ("__debug__":Str))=false:=by decide)
 (hcd:(x == ("__classdict__":Str))=false:=by decide):PE X (.Name x pos) (CD i):=λpins s σ H Q I h=>mI hN hv hd hcd pins s σ H Q I (yY h)
theorem JI {g:Int->Int->V} {i j:Int} {H:Hp} {Q:VK}:uG g (.int i) (.int j) H Q=Q (g i j) H:=propext ⟨λ⟨_,_,e1,e2,h⟩=>by cases e1;cases e2;exact h,λh=>⟨_,_,rfl,rfl,h⟩⟩
theorem sL {C:Int->Int->Prop} {g:Int->Int->V} {i j:Int} {H:Hp} {Q:VK}:rI C g (.int i) (.int j) H Q=(C i j/\Q (g i j) H):=propext ⟨λ⟨_,_,e1,e2,h⟩=>by cases e1;cases e2;exact h,λh=>⟨_,_,rfl,rfl,h⟩⟩
theorem tL {c:Bool} {P:Bool->Prop}:(∃i,V.bl c=V.bl i/\P i)=P c:=propext ⟨λ⟨_,e,h⟩=>by cases e;exact h,λh=>⟨_,rfl,h⟩⟩
theorem KI {c:Addr} {P:Addr->Prop}:(∃i,V.ref c=V.ref i/\P i)=P c:=propext ⟨λ⟨_,e,h⟩=>by cases e;exact h,λh=>⟨_,rfl,h⟩⟩
end L2
namespace L2
open PySem PySem.Spec PyProof.Rows
section
open PySem.Builtin PySem.Builtin.Str
end
end L2
namespace Hd
open PySem PySem.W PySem.Calls PyProof.Rows
noncomputable def SF (tb:String->Option Builtin) (p:Program) (w:World) (n0:Nat) (ann:Option Value):Nat->SharedT->Thread->Option SharedT
 |0,_,_=>none
 |n+1,s,t=>match through t with
  |true=>some s
  |false=>match stepOk n0 ann t with
   |false=>none
   |true=>match stepT (denote tb) p w s t with
    |some (s',t')=>SF tb p w n0 ann n s' t'
    |none=>none
theorem cV {tb:String->Option Builtin} {p:Program} {w:World} {n0:Nat} {ann:Option Value}:∀{n:Nat} {s r:SharedT} {t:Thread},SF tb p w n0 ann n s t=some r->topRun tb p w n0 ann n s.abs t=some r.abs
 |0,_,_,_,h=>by cases h
 |n+1,s,r,t,h=>by
  unfold SF at h;unfold topRun;cases he:through t with
  |true=>rw[he] at h;cases h;rfl
  |false=>
   rw[he] at h;cases hk:stepOk n0 ann t with
   |false=>rw[hk] at h;cases h
   |true=>
    rw[hk] at h;cases hs:stepT (denote tb) p w s t with
    |none=>rw[hs] at h;cases h
    |some x=>obtain⟨s2,t2⟩:=x;rw[hs] at h;rw[stepT_spec hs];exact cV h
noncomputable def uL:List Obj->Nat->BT->BT
 |[],_,t=>t
 |o::l,n,t=>uL l (n+1) (t.ins n o)
noncomputable def vL (P:Params):BT:=uL (boot_heap P).objs.toList 0 .nil
noncomputable def UF (w:World) (os:OsState):SharedT:=⟨vL w.params,(boot_heap w.params).objs.size,(boot_heap w.params).life, #[],boot_drawn,boot_toks,os⟩
theorem AY (w:World) (os:OsState):(UF w os).abs=⟨boot_heap w.params, #[],boot_drawn,boot_toks,os⟩:=by kernel_rfl
theorem BY (w:World):((boot_heap w.params).isNs mainGlobals&&(#[]:Array GenState).size == 0)=true:=by kernel_rfl
noncomputable abbrev wL (w:World):Option Value:=(boot_heap w.params).nsMap mainGlobals "__annotations__"
noncomputable def look {α:Type} (p:Program) (Yf:Shared->α) (H0:Heap) (s:Shared):Bool×α:=
 (staticsOk (importedModules p.main.body) H0 s.heap&&namesBound p s.heap&&gensDone s&&laidKept H0 s.heap,Yf s)
noncomputable def eV (p:Program) (N:Nat) (w:World) (os:OsState):Option SharedT:=SF treeTable p w (boot_heap w.params).objs.size (wL w) N (UF w os) (topStub p)
noncomputable def LI {α:Type} (p:Program) (Yf:Shared->α) (N:Nat) (w:World) (os:OsState):=(eV p N w os).map λs=>look p Yf (boot_heap w.params) s.abs
noncomputable def NI (p q:Program) (loose:List Str) (Xt:Shared->Bool) (N:Nat) (w:World) (os:OsState):=(eV p N w os).map λs=>openSeen q loose (importedModules p.main.body) Xt true s.abs
theorem CY {p q:Program} {loose:List Str} {Xt:Shared->Bool} {α:Type} {Yf:Shared->α} {Ya:World->α} {N:Nat}
  (e:opening p=plainProg p.main.scope.names) (hN:Nat.ble 600 N=true) (f:∀s,fenceModules? p s=some s)
  (one:∀(w:World) (os:OsState),LI p Yf N w os=some (true,Ya w)) (two:∀(w:World) (os:OsState),NI p q loose Xt N w os=some (openGood q loose)):LeftO p q loose Xt Yf Ya N:=λw=>by
 obtain⟨⟨h,gs,d,k,os⟩,e1,e2⟩:=Option.map_eq_some_iff.mp (boot_open e hN f w);obtain⟨rfl,rfl,rfl,rfl⟩:h=boot_heap w.params/\gs= #[]/\d=boot_drawn/\k=boot_toks:=by simpa using e2
 obtain⟨sT,r,l⟩:=Option.map_eq_some_iff.mp (one w os);obtain⟨sT',r',l2⟩:=Option.map_eq_some_iff.mp (two w os);obtain rfl:sT=sT':=Option.some.inj (r.symm.trans r');have r:=cV r;rw[AY] at r;obtain⟨l1,l3⟩:_/\_:=by simpa only[look,Prod.mk.injEq] using l
 have t:topFrom treeTable p w N ⟨boot_heap w.params, #[],boot_drawn,boot_toks,os⟩=some sT.abs:=by
  unfold topFrom;dsimp only;rw[BY w,r];show (match staticsOk (importedModules p.main.body) (boot_heap w.params) sT.abs.heap&&namesBound p sT.abs.heap&&gensDone sT.abs&&laidKept (boot_heap w.params) sT.abs.heap with|true=>_|false=>_)=_;rw[l1]
 unfold openEnds;rw[e1];show (topFrom treeTable p w N _).map _=_;rw[t];exact congrArg some (Prod.ext l2 l3)
end Hd
namespace Hd
open PySem PySem.W
noncomputable def fV:Nat->Nat->List Nat
 |0,_=>[]
 |k+1,n=>match Nat.beq n 0 with
  |true=>[]
  |false=>Nat.sub (n % 256) 1::fV k (n / 256)
noncomputable def S (n:Nat):Str:=⟨⟨fV 200 n⟩⟩
noncomputable def DY (P:Params) (x:Str) (t:Nat) (v:Value):DictEntry:=⟨PyData.keyHash P x,.str x t,v⟩
noncomputable def dO (n:Nat) (l:List DictEntry):Obj:=⟨.type "dict",none,.dict ⟨l⟩ n, #[]⟩
noncomputable def tO (l:List Value):Obj:=⟨.type "tuple",none,.seq ⟨l⟩ 0, #[]⟩
noncomputable def cO (l:List Value):Obj:=⟨.type "code",none,.fields ⟨l⟩, #[]⟩
end Hd
namespace Hd
open PySem PySem.W PySem.Calls PyProof.Rows
noncomputable def hV (tb:String->Option Builtin) (p:Program) (w:World) (n0:Nat) (ann:Option Value):Nat->SharedT->Thread->Option (SharedT×Thread)
 |0,s,t=>some (s,t)
 |n+1,s,t=>match through t with
  |true=>none
  |false=>match stepOk n0 ann t with
   |false=>none
   |true=>match stepT (denote tb) p w s t with
    |some (s',t')=>hV tb p w n0 ann n s' t'
    |none=>none
end Hd
namespace Hd
open PySem PySem.W PySem.Calls PyProof.Rows
theorem tw_run:(λ(_:(String->Option Builtin)->Program->World->Nat->Option Value->Nat->SharedT->Thread->Option SharedT)=>true) SF=true:=by k_qdec
theorem tw_go:(λ(_:(String->Option Builtin)->Program->World->Nat->Option Value->Nat->SharedT->Thread->Option (SharedT×Thread))=>true) hV=true:=by k_qdec
theorem tw_boot:(λ(_:World->OsState->SharedT) (_:World->Option Value)=>true) UF wL=true:=by k_qdec
theorem tw_look:(λ(_:{α:Type}->Program->(Shared->α)->Heap->Shared->Bool×α)=>true) @look=true:=by k_qdec
theorem tw_once:(λ(_:{α:Type}->Program->(Shared->α)->Nat->World->OsState->Option (Bool×α))=>true) @LI=true:=by k_qdec
theorem tw_seen:(λ(_:Program->Program->List Str->(Shared->Bool)->Nat->World->OsState->Option _)=>true) NI=true:=by k_qdec
end Hd
namespace L2
open PySem PySem.Spec PyProof.Rows
structure cD (k:Nat) (A:Around):Prop where
 dp:A.depth+3 * k+5 < recursionLimit
 un:A.units+16 * k+200 < cLine
theorem rB.h {k:Nat} {A:Around} (r:rB k A):cD k A:=⟨r.dp,r.un⟩
theorem cD.mono {j k:Nat} {A:Around} (r:cD k A) (h:j<=k):cD j A:=⟨by have:=r.dp;omega,by have:=r.un;omega⟩
theorem cD.deeper {k:Nat} {A:Around} (r:cD (k+1) A) (env:Env):cD k (A.deeper env):=
 ⟨by have:=r.dp;show A.depth+1+3 * k+5 < _;omega,by have:=r.un;show A.units+3+16 * k+200 < _;omega⟩
noncomputable def xL (P:Program) (w:World) (K:PySem.W.Frag) (mg:Str->Option Value) (base:Heap) (N:List Str) (qual:Str) (scope:Scope) (f:Addr) (cd:Value) (A:Around) (outer:List Env) (s:Shared) (H:Hp) (E:XK):Cx:=
 {RB (dE P w) P w K mg base N qual scope f cd A outer s H E with calm:=false}
theorem EY {P:Program} {w:World} {K:PySem.W.Frag} {mg:Str->Option Value} {base:Heap} {N:List Str} {qual:Str} {scope:Scope} {f:Addr} {cd:Value} {A:Around} {outer:List Env} {s:Shared} {H:Hp} {E:XK}:(xL P w K mg base N qual scope f cd A outer s H E).K=K:=rfl
end L2
namespace L2
open PySem PySem.Spec PyProof.Rows
noncomputable def VF (K:PySem.W.Frag) (fd:FuncData) (ps ks:List Str):Prop:=∀(s:Shared) (us:List Value) (a b:Value),K.In s.heap->us.length+2=ps.length->BindsTo s fd ⟨us,ks.zip [a,b]⟩ (ps.zip (us++[b,a]))
noncomputable def tH (K:PySem.W.Frag) (C:Addr) (m qual:Str) (st:Stmt) (ps ks:List Str):Prop:=∃f fd,xE K C m f/\OF K m qual st f fd/\VF K fd ps ks
noncomputable def OI (P:Program) (w:World) (K:PySem.W.Frag) (mg:Str->Option Value) (base:Heap) (C:Addr) (m:Str) (k:Nat) (ps ks:List Str) (sp:Sp):Prop:=
 ∃f fd,xE K C m f/\VF K fd ps ks/\zC P w K mg base (dE P w) k f fd ps sp
theorem tH.have {P:Program} {w:World} {K:PySem.W.Frag} {mg:Str->Option Value} {base:Heap} {C:Addr} {m qual:Str} {st:Stmt} {N ps ks:List Str} {k:Nat} {sp:Sp} (R:tH K C m qual st ps ks) (S:fA N ps (bA st)) (len:∀vs H Q E,sp vs H Q E->vs.length=ps.length)
  (hbody:RD P w K mg base qual st N k sp):OI P w K mg base C m (k+1) ps ks sp:=
 let ⟨f,fd,hm,F,hb⟩:=R
 ⟨f,fd,hm,hb,F.okE S len hbody⟩
end L2
namespace L2
open PySem PySem.Spec PyProof.Rows
end L2
namespace L2
open PySem PySem.Spec PyProof.Rows
end L2
namespace L2
open PySem PySem.Spec PyProof.Rows
section
variable {prog:Program} {w:World} {A:Around} {E:Value->Shared->Prop} {s:Shared}
end
section
variable {X:Cx}
end
end L2
namespace L2
open PySem PySem.Spec PyProof.Rows
section
variable {prog:Program} {w:World} {A:Around} {E:Value->Shared->Prop} {s:Shared}
end
section
variable {X:Cx}
end
end L2
namespace L2
open PySem PySem.Spec PyProof.Rows
section
variable {X:Cx} {pins:List (Addr×Obj)} {σ:List (Option V)} {H:Hp} {s:Shared} {a:Addr}
theorem jA.freezeT {kvs:List (List Key×V)} (I:jA X pins σ H s) (e:H a=some (.dT kvs)):∃o,s.heap.get? a=some o/\jA X pins σ (upd H a (.frz o (.dT kvs))) s:=by
 obtain⟨z,hd,xs,rel,o,es,ep,ho,r⟩:=eK I.hok e;have st:CA X.prog X.w (upd H a (.frz o (.dT kvs))) s.heap a (.dT kvs):=(I.hok a _ e).stay (λ_ _ _ q=>q) (λc q=>by rw[oA (λz=>by rw[z,e] at q;cases q)];exact q) (λc xs q=>by rw[oA (λz=>by rw[z,e] at q;cases q)];exact q);refine⟨o,ho,I.rewrite e (λ_ z=>by cases z) (λ_ z=>by cases z) (λw hw h=>?_) ⟨ho,st⟩⟩;rcases I.still hw h with ⟨_,_,q⟩|⟨_,q⟩|⟨_,q⟩<;>(rw[e] at q;cases q)
theorem jA.thawT {kvs:List (List Key×V)} {o:Obj} (I:jA X pins σ H s) (e:H a=some (.frz o (.dT kvs))) (h0:∀o u,X.H₀ a≠some (.frz o u)):jA X pins σ (upd H a (.dT kvs)) s:=by
 have ok:CA X.prog X.w H s.heap a (.dT kvs):=(I.hok a _ e).2;have st:CA X.prog X.w (upd H a (.dT kvs)) s.heap a (.dT kvs):=ok.stay (λ_ _ _ q=>q) (λc q=>by rw[oA (λz=>by rw[z,e] at q;cases q)];exact q) (λc xs q=>by rw[oA (λz=>by rw[z,e] at q;cases q)];exact q);refine I.rewrite e (λ_ z=>by cases z) (λ_ z=>by cases z) (λw hw h=>?_) st;rcases h with ⟨_,_,rfl⟩|h
 ·exact h0 _ _ hw
 ·rcases I.still hw (.inr h) with ⟨o',z',q⟩|⟨_,q⟩|⟨_,q⟩
  ·rcases h with ⟨xs,rfl⟩|⟨ps,rfl⟩
   ·have:=I.base.tups a xs hw;rw[e] at this;cases this
   ·obtain⟨m,this⟩:=I.base.tbls a ps hw;rw[e] at this;cases this
  ·rw[e] at q;cases q
  ·rw[e] at q;cases q
end
noncomputable def iC (a:Addr) (H:Hp):Hp:=match H a with
 |some (.frz _ (.dT kvs))=>upd H a (.dT kvs)
 |_=>H
theorem FY {a:Addr} {H:Hp} {o:Obj} {kvs:List (List Key×V)} (h:H a=some (.frz o (.dT kvs))):iC a H=upd H a (.dT kvs):=by unfold iC;rw[h]
theorem jA.thawedT {X:Cx} {pins:List (Addr×Obj)} {σ:List (Option V)} {H:Hp} {s:Shared} {a:Addr} (I:jA X pins σ H s) (h0:∀o u,X.H₀ a≠some (.frz o u)):jA X pins σ (iC a H) s:=by
 unfold iC
 split
 ·rename_i h;exact I.thawT h h0
 ·exact I
noncomputable def GE (a:Addr) (D:fC):fC:={D with nx:=λσ H=>D.nx σ (iC a H),bk:=λσ H=>D.bk σ (iC a H),ct:=λσ H=>D.ct σ (iC a H),rt:=λv H=>D.rt v (iC a H)}
noncomputable def QI (X:Cx) (t:TS):TS:=λD σ H=>∃a,(∀o u,X.H₀ a≠some (.frz o u))/\t (GE a D) σ H
theorem GY {X:Cx} {st:Stmt} {t:TS} (h:PS X st t):PS X st (QI X t):=by
 intro pins s σ H D I hh;obtain⟨a,h0,hh⟩:=hh;refine wpAny_mono (h pins s σ H (GE a D) I hh) (λf s' q=>?_) λ_ _ e=>e;unfold SP at q ⊢;cases f with
 |next=>obtain⟨σ',H',I',q⟩:=q;exact⟨σ',_,I'.thawedT h0,q⟩
 |brk=>obtain⟨σ',H',I',q⟩:=q;exact⟨σ',_,I'.thawedT h0,q⟩
 |cont=>obtain⟨σ',H',I',q⟩:=q;exact⟨σ',_,I'.thawedT h0,q⟩
 |ret u=>obtain⟨v,σ',H',I',r,q⟩:=q;exact⟨v,σ',_,I'.thawedT h0,r,q⟩
noncomputable def RI (a:Addr) (o:Obj) (kvs:List (List Key×V)):It:=
 ⟨λi H=>H a=some (.frz o (.dT kvs))/\i < kvs.length,λi H x H'=>H'=H/\∃k v b,kvs[i]?=some (k,v)/\x=.ref b/\H b=some (.tup (k.map kV)),λi H=>H a=some (.frz o (.dT kvs))/\i=kvs.length⟩
theorem uH {H:Hp}:∀{kvs:List (List Key×V)} {ys:List (List Key×Addr×Value)},KT H kvs ys->∀(i:Nat) {y:List Key×Addr×Value},ys[i]?=some y->∃k v,kvs[i]?=some (k,v)/\H y.2.1=some (.tup (k.map kV))
 |_,_,.nil,i,y,h=>by simp at h
 |_,_,.cons (a:=p) r t,0,y,h=>by
  have h:=Option.some.inj h;subst h;exact⟨p.1,p.2,rfl,r.2.1⟩
 |_,_,.cons r t,i+1,y,h=>uH t i h
theorem OO {X:Cx} {pins:List (Addr×Obj)} {σ:List (Option V)} {H:Hp} {s:Shared} {a:Addr} {o:Obj} {kvs:List (List Key×V)} {ep:Nat} {es:Array DictEntry} (I:jA X pins σ H s) (e:H a=some (.frz o (.dT kvs))) (hd:o.data=.dict es ep):
  LC s.heap a es ep/\(a == sysModules)=false/\es.size=kvs.length/\∀i (h:i < es.size),∃k v b,kvs[i]?=some (k,v)/\es[i].key=.ref b/\H b=some (.tup (k.map kV)):=by
 have ho:=(I.hok a _ e).1;obtain⟨z,nd,ys,rel,o',es',ep',e0,ec,ed,he,_⟩:=zO I.hok (.inr ⟨o,e⟩);rw[ho] at e0;cases e0;rw[hd] at ed;cases ed;have hsz:=size_of_entries he;have hlen:=Paired.length rel;refine⟨⟨o,ho,ec,hd⟩,nd,⋯,λi hi=>?_⟩;have e3:=entry_at he i;rw[Array.getElem?_eq_getElem hi,List.getElem?_eq_getElem ⋯] at e3;have e3:=Option.some.inj e3;obtain⟨k,v,h1,h2⟩:=uH rel i (List.getElem?_eq_getElem (show i < ys.length by omega));exact⟨k,v,_,h1,by rw[e3];rfl,h2⟩
theorem HY {P:Program} {w:World} {K:PySem.W.Frag} {tg:Expr} (a it:Addr) (o:Obj) (kvs:List (List Key×V)) (ep:Nat) {es:Array DictEntry} (he:o.data=.dict es ep):uE P w K tg (RI a o kvs) [it] it (λi h=>h.IsKeyIter it a i es.size ep) where
 mem:=by simp
 obj:=λi h st b hb=>by
  have e:b=it:=by simpa using hb
  subst e;obtain⟨o,e,c,d⟩:=st;exact⟨o,e,λv z=>by rw[d] at z;cases z⟩
 keep:=λi h h' st k=>st.at λo e=>k it (by simp) o e
 item:=by
  intro X hP hw hK hc i pins s σ H E I hf st hg;subst hP hw hK;obtain⟨hg,hi⟩:=hg;obtain⟨raw,_,hsz,hat⟩:=OO I hg he;obtain⟨f0,f1,f2,f3,f4,f5⟩:=hf it (by simp);have hi2:i < es.size:=⋯;obtain⟨k,v,b,hk,hkey,hb⟩:=hat i hi2;refine aV st raw hi2 λh' st' sb=>?_;have I1:jA X pins σ H {s with heap:=h'}:=I.turned (t':=s.toks) (λb o hb e=>(sb.2 b hb).trans e) f0 f1 f3 f4 f5;obtain⟨ob,e,c,d⟩:=id st';exact⟨_,rfl,jO (s:={s with heap:=h'}) e c d (by decide) ⟨.ref b,H,I1,by rw[hkey];rfl,⟨rfl,k,v,b,hk,rfl,hb⟩,st',λb hb=>(hf b hb).1⟩⟩
 done:=by
  intro X hP hw hK hc i pins s σ H E I hf st hg;subst hP hw hK;obtain⟨hg,hi⟩:=hg;obtain⟨raw,_,hsz,hat⟩:=OO I hg he;obtain⟨f0,f1,f2,f3,f4,f5⟩:=hf it (by simp);obtain rfl:i=es.size:=⋯;exact bV (I.ok.hd hc) st raw λh' eb=>⟨rfl,I.turned (t':=s.toks) (λb o hb e=>eb b o hb e) f0 f1 f3 f4 f5⟩
 self:=λ_ _ _ _ _ st h=>wpAny_pyIter_keyiter st h
noncomputable def WF (tl:TE):TI:=λσ H R=>tl σ H λx H1=>∃a kvs,x=.ref a/\H1 a=some (.dT kvs)/\∀o,R (RI a o kvs) (upd H1 a (.frz o (.dT kvs)))
theorem IY {X:Cx} {tg l:Expr} {tl:TE} (hl:PE X l tl):PI X tg l (WF tl):=by
 intro pins s σ H R I h;refine YA (hl pins s σ H _ I h) λv s1 ⟨x,H1,I1,r1,q1⟩=>?_;obtain⟨a,kvs,e,hq,q⟩:=q1;subst e;cases r1;obtain⟨o,ho,I2⟩:=I1.freezeT hq;obtain⟨_,_,vs,rel,o',es,ep,ho',c,d,r⟩:=eK I1.hok hq;rw[ho] at ho';cases ho';obtain⟨raw,hd,hsz,_⟩:=OO I2 OA d;refine ZU hd raw ?_;have hfr:upd H1 a (.frz o (.dT kvs)) s1.heap.objs.size=none:=I2.hok.fresh (Nat.le_refl _);refine⟨s1.heap.objs.size,[s1.heap.objs.size],_,_,upd H1 a (.frz o (.dT kvs)),rfl,I2.kept (t':=s1.toks) λb o e=>Heap.get?_push_of_some _ e,HY a _ o kvs ep d,⟨_,Heap.get?_push_size _ rfl,rfl,rfl⟩,λb hb=>?_,q o⟩;have e:b=s1.heap.objs.size:=by simpa using hb
 subst e;exact I2.fpOk (Nat.le_refl _) hfr
end L2
namespace L2
open PySem PySem.Spec PyProof.Rows
section
open PySem.W
noncomputable def SI (n:Nat) {α:Type} (R:α->Prop):KasT α->Prop
 |.ret a=>R a
 |.ask i j k=>i < n/\j < n/\∀b,SI n R (k b)
noncomputable def In (p:Array Nat) (n:Nat):Prop:=0 < n/\∀x∈p.toList,x < n
theorem In.at {p:Array Nat} {n:Nat} (h:In p n) (i:Nat):p.getD i 0 < n:=by
 rw[Array.getD_eq_getD_getElem?];cases e:p[i]? with
 |none=>exact h.1
 |some x=>exact h.2 x (List.mem_of_getElem? (by rw[Array.getElem?_toList];exact e))
structure Od (lt:Nat->Nat->Bool) (n:Nat):Prop where
 tr:∀i j k,i < n->j < n->k < n->lt i j=true->lt j k=true->lt i k=true
 ir:∀i,i < n->lt i i=false
 to:∀i j,i < n->j < n->i≠j->lt i j=true\/lt j i=true
variable {lt:Nat->Nat->Bool} {n:Nat}
structure Pm (p:Array Nat) (n:Nat):Prop where
 sz:p.size=n
 lt:∀i,i < n->p.getD i 0 < n
 ne:∀i j,i < n->j < n->i≠j->p.getD i 0≠p.getD j 0
 pe:p.Perm (List.range n).toArray
noncomputable def Up (lt:Nat->Nat->Bool) (p:Array Nat) (m:Nat):Prop:=∀i j,i < j->j < m->lt (p.getD i 0) (p.getD j 0)=true
noncomputable def Dn (lt:Nat->Nat->Bool) (p:Array Nat) (m:Nat):Prop:=∀i j,i < j->j < m->lt (p.getD j 0) (p.getD i 0)=true
theorem Up.succ {p:Array Nat} {m:Nat} (o:Od lt n) (hp:Pm p n) (h:Up lt p m) (h1:1<=m) (hm:m < n) (c:lt (p.getD (m - 1) 0) (p.getD m 0)=true):Up lt p (m+1):=λi j hij hj=>by
 rcases (by omega:j < m\/j=m) with hj|rfl
 ·exact h i j hij hj
 ·rcases (by omega:i < j - 1\/i=j - 1) with hi|rfl
  ·exact o.tr _ _ _ (hp.lt _ ⋯) (hp.lt _ ⋯) (hp.lt _ hm) (h i (j - 1) hi ⋯) c
  ·exact c
theorem Dn.succ {p:Array Nat} {m:Nat} (o:Od lt n) (hp:Pm p n) (h:Dn lt p m) (h1:1<=m) (hm:m < n) (c:lt (p.getD m 0) (p.getD (m - 1) 0)=true):Dn lt p (m+1):=λi j hij hj=>by
 rcases (by omega:j < m\/j=m) with hj|rfl
 ·exact h i j hij hj
 ·rcases (by omega:i < j - 1\/i=j - 1) with hi|rfl
  ·exact o.tr _ _ _ (hp.lt _ hm) (hp.lt _ ⋯) (hp.lt _ ⋯) c (h i (j - 1) hi ⋯)
  ·exact c
theorem DD {p:Array Nat} (o:Od lt n) (hp:Pm p n) {i j:Nat} (hi:i < n) (hj:j < n) (ne:i≠j) (c:lt (p.getD i 0) (p.getD j 0)=false):lt (p.getD j 0) (p.getD i 0)=true:=by
 rcases o.to _ _ (hp.lt i hi) (hp.lt j hj) (hp.ne i j hi hj ne) with h|h
 ·rw[h] at c;cases c
 ·exact h
end
end L2
namespace L2
open PySem PySem.Spec PyProof.Rows
noncomputable def DC:List Key->List Key->Bool
 |[.inr s,.inl a,.inl b],[.inr t,.inl c,.inl d]=>if s=t then (if a=c then decide (b < d) else decide (a < c)) else decide (s.cps.toList < t.cps.toList)
 |_,_=>false
noncomputable def eC (k:List Key):Prop:=∃s a b,k=[.inr s,.inl a,.inl b]
theorem iV {s t u:Str} (h1:s.cps.toList < t.cps.toList) (h2:t.cps.toList < u.cps.toList):s.cps.toList < u.cps.toList:=List.lt_trans h1 h2
theorem JY {s t:Str} (h:s.cps.toList=t.cps.toList):s=t:=by
 cases s;cases t;rw[Str.mk.injEq];exact Array.toList_inj.mp h
theorem UI {s t:Str} (h:s≠t):s.cps.toList < t.cps.toList\/t.cps.toList < s.cps.toList:=by
 by_cases c:s.cps.toList < t.cps.toList
 ·exact .inl c
 ·by_cases d:t.cps.toList < s.cps.toList
  ·exact .inr d
  ·exact absurd (JY (List.le_antisymm (List.not_lt.mp d) (List.not_lt.mp c))) h
theorem VI {s:Str}:¬s.cps.toList < s.cps.toList:=List.lt_irrefl _
theorem jV {k:List Key}:DC k k=false:=by
 by_cases h:eC k
 ·obtain⟨s,a,b,rfl⟩:=h;show (if s=s then (if a=a then decide (b < b) else decide (a < a)) else decide (s.cps.toList < s.cps.toList))=false;rw[if_pos rfl,if_pos rfl];simp
 ·cases e:DC k k with
  |false=>rfl
  |true=>
   rcases k with _|⟨(a|a),_|⟨(b|b),_|⟨(c|c),_|⟨d,r⟩⟩⟩⟩
   all_goals first|(cases e;done)|exact absurd ⟨_,_,_,rfl⟩ h
theorem PO {x y:List Key} (hx:eC x) (hy:eC y) (ne:x≠y):DC x y=true\/DC y x=true:=by
 obtain⟨s,a,b,rfl⟩:=hx;obtain⟨t,c,d,rfl⟩:=hy;show (if s=t then (if a=c then decide (b < d) else decide (a < c)) else decide (s.cps.toList < t.cps.toList))=true\/(if t=s then (if c=a then decide (d < b) else decide (c < a)) else decide (t.cps.toList < s.cps.toList))=true;by_cases e1:s=t
 ·subst e1;rw[if_pos rfl,if_pos rfl];by_cases e2:a=c
  ·subst e2;rw[if_pos rfl,if_pos rfl];have:b≠d:=λz=>ne (by rw[z]);simp only[decide_eq_true_eq];omega
  ·rw[if_neg e2,if_neg (Ne.symm e2)];simp only[decide_eq_true_eq];omega
 ·rw[if_neg e1,if_neg (Ne.symm e1)];simp only[decide_eq_true_eq];exact UI e1
theorem QO {x y z:List Key} (hx:eC x) (hy:eC y) (hz:eC z) (h1:DC x y=true) (h2:DC y z=true):DC x z=true:=by
 obtain⟨s,a,b,rfl⟩:=hx;obtain⟨t,c,d,rfl⟩:=hy;obtain⟨u,e,f,rfl⟩:=hz;have h1:(if s=t then (if a=c then decide (b < d) else decide (a < c)) else decide (s.cps.toList < t.cps.toList))=true:=h1;have h2:(if t=u then (if c=e then decide (d < f) else decide (c < e)) else decide (t.cps.toList < u.cps.toList))=true:=h2;show (if s=u then (if a=e then decide (b < f) else decide (a < e)) else decide (s.cps.toList < u.cps.toList))=true;by_cases e1:s=t
 ·subst e1;rw[if_pos rfl] at h1;by_cases e2:s=u
  ·subst e2;rw[if_pos rfl] at h2 ⊢;by_cases c1:a=c
   ·subst c1;rw[if_pos rfl] at h1;by_cases c2:a=e
    ·subst c2;rw[if_pos rfl] at h2 ⊢;simp only[decide_eq_true_eq] at h1 h2 ⊢;omega
    ·rw[if_neg c2] at h2 ⊢;exact h2
   ·rw[if_neg c1] at h1;simp only[decide_eq_true_eq] at h1;by_cases c2:c=e
    ·subst c2;rw[if_neg c1];simpa using h1
    ·rw[if_neg c2] at h2;simp only[decide_eq_true_eq] at h2;rw[if_neg ⋯];simp only[decide_eq_true_eq];omega
  ·rw[if_neg e2] at h2 ⊢;exact h2
 ·rw[if_neg e1] at h1;simp only[decide_eq_true_eq] at h1;by_cases e2:t=u
  ·subst e2;rw[if_neg e1];simpa using h1
  ·rw[if_neg e2] at h2;simp only[decide_eq_true_eq] at h2;have h3:=iV h1 h2;rw[if_neg (λz=>by rw[z] at h1;exact VI (iV h1 h2))];simpa using h3
theorem lV:∀{a b:List (List Key)},a.Perm b->(∀k∈a,eC k)->a.Pairwise (DC · ·=true)->b.Pairwise (DC · ·=true)->a=b
 |[],b,h,_,_,_=>(List.Perm.nil_eq h)
 |x::a,b,h,ht,h1,h2=>by
  have hx:x∈b:=h.mem_iff.mp (List.mem_cons_self ..);cases b with
  |nil=>cases hx
  |cons y b=>
   have hty:eC y:=ht y (h.mem_iff.mpr (List.mem_cons_self ..));have htx:eC x:=ht x (List.mem_cons_self ..);have e:x=y:=by
    rcases List.mem_cons.mp hx with e|hx
    ·exact e
    ·have hy:y∈x::a:=h.mem_iff.mpr (List.mem_cons_self ..);rcases List.mem_cons.mp hy with e|hy
     ·exact e.symm
     ·have a1:=(List.pairwise_cons.mp h1).1 y hy;have a2:=(List.pairwise_cons.mp h2).1 x hx;have:=QO htx hty htx a1 a2;rw[jV] at this;cases this
   subst e;rw[lV (List.perm_cons x |>.mp h) (λk hk=>ht k (List.mem_cons_of_mem _ hk)) (List.pairwise_cons.mp h1).2 (List.pairwise_cons.mp h2).2]
noncomputable def oB (h:Heap) (v:Value) (k:List Key):Prop:=∃x o xs n s a b t1 t2 t3,v=.ref x/\h.get? x=some o/\o.cls=.type "tuple"/\o.data=.seq xs n/\xs.toList=[.str s t1,.int a t2,.int b t3]/\k=[.inr s,.inl a,.inl b]
theorem oB.tri {h:Heap} {v:Value} {k:List Key} (x:oB h v k):eC k:=by
 obtain⟨_,_,_,_,s,a,b,_,_,_,_,_,_,_,_,e⟩:=x;exact⟨s,a,b,e⟩
theorem WI {prog:Program} {w:World} {A:Around} {E:Value->Shared->Prop} {s:Shared} {Q:Bool->Shared->Prop} {u v:Value} {k l:List Key} (hu:oB s.heap u k) (hv:oB s.heap v l) (q:Q (DC k l) s):wpAny (model prog w) A (keyLt' (tuples' true) u v) Q E s:=by
 obtain⟨x,o,xs,n,s1,a,b,t1,t2,t3,rfl,g1,g2,g3,g4,rfl⟩:=hu;obtain⟨y,o',ys,n',s2,c,d,u1,u2,u3,rfl,f1,f2,f3,f4,rfl⟩:=hv;refine PySem.W.kat_lt g1 g3 f1 f3 ?_;rw[g4,f4];have q:Q (if s1=s2 then (if a=c then decide (b < d) else decide (a < c)) else decide (s1.cps.toList < s2.cps.toList)) s:=q;show PySem.W.KatLex prog w A true _ Q [(.str s1 t1,.str s2 u1),(.int a t2,.int c u2),(.int b t3,.int d u3)] 0 s;refine PySem.W.kat_cons (wpAny_eqBool_str ?_);unfold PySem.W.KatGo;by_cases e1:s1=s2
 ·rw[decide_eq_true e1,if_pos rfl];rw[if_pos e1] at q;refine PySem.W.kat_cons (wpAny_eqBool_int ?_);unfold PySem.W.KatGo;by_cases e2:a=c
  ·rw[show (a == c)=true by simpa using e2,if_pos rfl];rw[if_pos e2] at q;refine PySem.W.kat_cons (wpAny_eqBool_int ?_);unfold PySem.W.KatGo;by_cases e3:b=d
   ·rw[show (b == d)=true by simpa using e3,if_pos rfl];refine PySem.W.kat_nil ?_;have l1:xs.size=3:=by rw[<-Array.length_toList,g4];rfl
    have l2:ys.size=3:=by rw[<-Array.length_toList,f4];rfl
    rw[l1,l2];rw[e3] at q;simpa using q
   ·rw[show (b == d)=false by simpa using e3,if_neg (by simp)];exact PySem.W.kat_one _ _ (PySem.P.lt_int q)
  ·rw[show (a == c)=false by simpa using e2,if_neg (by simp)];rw[if_neg e2] at q;exact PySem.W.kat_one _ _ (PySem.P.lt_int q)
 ·rw[decide_eq_false e1,if_neg (by simp)];rw[if_neg e1] at q;show wpAny (model prog w) A (oneLt' true _ _) Q _ s;rw[<-keyLt'_oneType];exact PySem.W.kas_lt_str q
theorem RO {α β:Type} {F:α->β->Prop}:∀{xs:List α} {ys:List β} {i:Nat} {x:α},Paired F xs ys->xs[i]?=some x->∃y,ys[i]?=some y/\F x y
 |_,_,_,_,.nil,e=>by simp at e
 |_,_,0,_,.cons r _,e=>by simp at e;subst e;exact⟨_,rfl,r⟩
 |_,_,i+1,x,.cons _ t,e=>by
  obtain⟨u,h1,h2⟩:=RO (i:=i) (x:=x) t (by simpa using e);exact⟨u,by simpa using h1,h2⟩
theorem SO {h h':Heap} {v:Value} {k:List Key} (x:oB h v k) (hk:∀y o,h.get? y=some o->o.cls=.type "tuple"->h'.get? y=some o):oB h' v k:=by
 obtain⟨x,o,xs,n,s1,a,b,t1,t2,t3,e,g1,g2,r⟩:=x;exact⟨x,o,xs,n,s1,a,b,t1,t2,t3,e,hk _ _ g1 g2,g2,r⟩
theorem mV {h:Heap}:∀{vs:List Value} {ks:List (List Key)},Paired (oB h) vs ks->∃fs,PySem.W.KatTups h vs fs/\fs.length=vs.length/\∀f∈fs,∃s t,f=.str s t
 |_,_,.nil=>⟨[],PySem.W.KatTups.nil,rfl,λf hf=>by cases hf⟩
 |_,_,.cons p r=>by
  obtain⟨x,o,xs,n,s1,a,b,t1,t2,t3,e,g1,g2,g3,g4,_⟩:=p;obtain⟨fs,h1,h2,h3⟩:=mV r;subst e;refine⟨.str s1 t1::fs,PySem.W.KatTups.cons g1 g2 g3 (by rw[<-Array.getElem?_toList,g4];rfl) h1,by rw[List.length_cons,List.length_cons,h2],λf hf=>?_⟩;rcases List.mem_cons.mp hf with rfl|hf
  ·exact⟨_,_,rfl⟩
  ·exact h3 f hf
section
variable {prog:Program} {w:World} {A:Around} {E:Value->Shared->Prop} {s:Shared}
theorem KY {a:Addr} {vs:List Value} {n:Nat} {P:Fin->Shared->Prop} (ho:s.heap.get? a=some (seqObj "list" vs.toArray n)) (h2:vs.length < 2)
  (h:P (.done (.ret .none)) {s with heap:=sortedHeap s.heap a vs vs.toArray}):wpAny (model prog w) A (Builtin.«list.sort» ⟨[.ref a],[]⟩) P E s:=by
 rw[list_sort_plain];have ha:a < s.heap.objs.size:=Heap.lt_size ho;refine wpAny_bind (listItems_at ho rfl ?_);refine wpAny_bind (listUpdate_at ho rfl ?_);obtain⟨e1,ho1⟩:∃e1,(s.heap.update a (Obj.mapSeq λ_=> #[])).get? a=some (seqObj "list" #[] e1):=⟨_,get?_update_seq ho (λ_=> #[])⟩
 refine wpAny_bind (seqEpoch_at ho1 rfl ?_);refine wpAny_bind (wpAny_newTuple ?_);refine wpAny_bind (wpAny_newList ?_);refine wpAny_holding ?_;have ho6:(((s.heap.update a (Obj.mapSeq λ_=> #[])).push (seqObj "tuple" vs.toArray 0)).push (seqObj "list" #[] 0)).get? a=some (seqObj "list" #[] e1):=by
  rw[Heap.get?_push_ne _ _ _ (by rw[size_push',Heap.size_update];exact Nat.ne_of_lt (Nat.lt_succ_of_lt ha)),Heap.get?_push_ne _ _ _ (by rw[Heap.size_update];exact Nat.ne_of_lt ha)];exact ho1
 show wpAny (model prog w) A _ P E {s with heap:=((s.heap.update a (Obj.mapSeq λ_=> #[])).push (seqObj "tuple" vs.toArray 0)).push (seqObj "list" #[] 0)};dsimp only;have hsz:vs.toArray.size < 2:=by rw[List.size_toArray];exact h2
 rw[if_pos hsz,if_pos hsz];refine wpAny_bind (wpAny_pure ?_);rw[StateT.run_pure];refine wpAny_bind (wpAny_pure ?_);dsimp only;refine wpAny_bind (seqEpoch_at ho6 rfl ?_);have hm:Array.map (λx=>x.snd) (arrOf (SortSt.mk' general' (vs.toArray.zip vs.toArray) #[] 7 none))=vs.toArray:=by
  show (vs.toArray.zip vs.toArray).map (λx=>x.snd)=vs.toArray;apply Array.ext';rw[Array.toList_map,Array.toList_zip];exact List.map_snd_zip (Nat.le_refl _)
 show wpAny _ _ (Builtin.List.listUpdate (.ref a) (λ_=>Array.map (λx=>x.snd) (arrOf (SortSt.mk' general' (vs.toArray.zip vs.toArray) #[] 7 none))) >>= _) _ _ _;rw[hm];refine wpAny_bind (listUpdate_at ho6 rfl ?_ (hsz2:=by rw[sizeLine_eq,List.size_toArray];omega));simp only[bne_self_eq_false,Bool.false_eq_true,if_false];exact wpAny_pure h
theorem nV {H:Hp} {h:Heap} {a:Addr} {k:List Key} (ok:cC prog w H h) (e:H a=some (.tup (k.map kV))) (ht:eC k):oB h (.ref a) k:=by
 obtain⟨s1,x,y,rfl⟩:=ht;obtain⟨_,its,r,o,g1,g2,n,g3⟩:=ok _ _ e;cases r with
 |cons r1 r=>cases r with
  |cons r2 r=>cases r with
   |cons r3 r=>
    cases r;obtain⟨t1,rfl⟩:=r1;obtain⟨t2,rfl⟩:=r2;obtain⟨t3,rfl⟩:=r3;exact⟨a,o,_,n,s1,x,y,t1,t2,t3,rfl,g1,g2,g3,rfl,rfl⟩
theorem UO {H:Hp}:∀{out:List Value} {ks:List (List Key)},Paired (λv k=>eC k/\∃a,v=Value.ref a/\H a=some (.tup (k.map kV))) out ks->∃us,pA us out/\fE H ks us
 |_,_,.nil=>⟨[],.nil,.nil⟩
 |_,_,.cons ⟨_,a,e,h⟩ r=>by
  obtain⟨us,h1,h2⟩:=UO r;exact⟨.ref a::us,.cons e h1,.cons ⟨a,rfl,h⟩ h2⟩
end
theorem pV {H:Hp}:∀{us:List V} {its:List Value} {ks:List (List Key)},pA us its->fE H ks us->(∀k∈ks,eC k)->Paired (λv k=>eC k/\∃a,v=Value.ref a/\H a=some (.tup (k.map kV))) its ks
 |_,_,_,.nil,.nil,_=>.nil
 |_,_,_,.cons r v,.cons ⟨a,e,h⟩ q,ht=>by
  subst e;exact .cons ⟨ht _ (List.mem_cons_self ..),a,r,h⟩ (pV v q λk hk=>ht k (List.mem_cons_of_mem _ hk))
end L2
namespace L2
open PySem PySem.Spec PyProof.Rows
open Classical in
theorem qV (a b:Key):UE (kV a) (kV b)=decide (a=b):=by
 cases a<;>cases b<;>simp[kV,UE,Bool.beq_eq_decide_eq]
noncomputable def kD (k:List Key):List Dv:=k.map λx=>.leaf (kV x)
theorem VO:∀(k l:List Key),IA (kD k) (kD l)=decide (k=l)
 |[],[]=>by simp[kD,IA]
 |[],b::l=>by simp[kD,IA]
 |a::k,[]=>by simp[kD,IA]
 |a::k,b::l=>by
  have ih:=VO k l;unfold kD at ih ⊢;rw[List.map_cons,List.map_cons,IA,ih,dC,qV,Bool.eq_iff_iff];simp
theorem WO:∀(k l:List Key),GA (kD k) (kD l)=true
 |[],[]=>by simp[kD,GA]
 |[],b::l=>by simp[kD,GA]
 |a::k,[]=>by simp[kD,GA]
 |a::k,b::l=>by
  have ih:=WO k l;unfold kD at ih ⊢;rw[List.map_cons,List.map_cons,GA,ih,gC];rfl
theorem XO:∀(k:List Key),vA (kD k)=0
 |[]=>by simp[kD,vA]
 |a::k=>by
  have ih:=XO k;unfold kD at ih ⊢;rw[List.map_cons,vA,ih,kB];rfl
theorem rV {K:PySem.W.Frag} {H:Hp}:∀(k:List Key),zA K H (kD k) (k.map kV)
 |[]=>by show zA K H [] [];unfold zA;rfl
 |a::k=>by
  show zA K H (Dv.leaf (kV a)::kD k) (kV a::k.map kV);unfold zA;refine⟨_,_,rfl,?_,rV k⟩;unfold vB;exact⟨rfl,by cases a<;>rfl⟩
theorem YM {K:PySem.W.Frag} {H:Hp} {a:Addr} {k:List Key} (h:H a=some (.tup (k.map kV))):vB K H (.seq true (kD k)) (.ref a):=by
 unfold vB;exact⟨a,_,rfl,by rw[if_pos rfl];exact cB.of h,rV k⟩
end L2
namespace L2
open PySem PySem.Spec PyProof.Rows
section
variable {prog:Program} {w:World} {K:Type} [DecidableEq K] {knd:HeapKind prog w K} {A:Around} {E:Value->Shared->Prop} {s:Shared}
theorem LY {d a:Addr} {xs:List (K×Addr×Value)} {k:K} {dflt:Value} {Q:Value->Shared->Prop} (hu:knd.room A) (hkey:knd.is s.heap k a) (hm:s.heap.DictOfH knd d xs) (hsz:xs.length<=sizeLine)
  (h1:∀p,atKey xs k=some p->Q p.2 {s with toks:=s.toks+knd.draws k})
  (h2:atKey xs k=none->∀h',h'.DictOfH knd d (storedH xs k a dflt)->Heap.SameBut d s.heap h'->Q dflt {s with heap:=h',toks:=s.toks+knd.draws k}):wpAny (model prog w) A (dictSetDefault d (.ref a) dflt) Q E s:=by
 obtain⟨o,es,ep,ho,hc,hd,he,his,hn⟩:=hm;unfold dictSetDefault
 try with_reducible refine wpAny_holding ?_
 refine wpAny_bind (knd.pyHash hu hkey ?_);refine wpAny_bind (wpAny_dictFind_heap (s:={s with toks:=s.toks+knd.draws k}) hu hkey ho hd he his hn (λhno=>?_) λj p hj=>?_)
 ·have hnot:k∉xs.map (·.1):=not_mem_keys_of_get hno;refine wpAny_bind (wpAny_rule (wpAny_bind (wpAny_updateDictKeys (hz:=by have e:=size_of_entries he;omega) (s:={s with toks:=s.toks+knd.draws k}) ho hd (wpAny_pure (h2 (atKey_none_of_get hno) _ ⟨_,_,ep+1,Heap.get?_update_self _ ho (Obj.isFreed_of_dict (Obj.data_mapDictKeys hd _)),hc.mapDictKeys _,Obj.data_mapDictKeys hd _,?_,?_,?_⟩ (Heap.SameBut.update ..))))))
  ·rw[storedH_new (atKey_none_of_get hno)];simp[he,entryOfKey]
  ·rw[storedH_new (atKey_none_of_get hno)];intro x hx;rcases List.mem_append.mp hx with hx|hx
   ·exact knd.keeps (his x hx) ho hd (Heap.SameBut.update ..)
   ·simp only[List.mem_singleton] at hx;subst hx;exact knd.keeps hkey ho hd (Heap.SameBut.update ..)
  ·rw[storedH_new (atKey_none_of_get hno)];rw[List.map_append,List.nodup_append];refine⟨hn,by simp,?_⟩;intro x hx y hy;simp only[List.map_cons,List.map_nil,List.mem_singleton] at hy;subst hy;exact λe=>hnot (e ▸ hx)
 ·refine wpAny_bind (wpAny_dictEntries (s:={s with toks:=s.toks+knd.draws k}) ho hd ?_);have ee:es[j]?=some (entryOfKey knd (k,p)):=by rw[entry_at he,hj];rfl
  rw[ee];exact wpAny_bind (wpAny_rule (wpAny_pure (h1 p (atKey_of_get hn hj))))
theorem MY {d a:Addr} {dflt:Value}:MeetsIn prog w (Builtin.«dict.setdefault» ⟨[.ref d,.ref a,dflt],[]⟩) (λA R s=>knd.room A.in1/\(d == sysModules)=false/\∃k xs,knd.is s.heap k a/\s.heap.DictOfH knd d xs/\xs.length<=sizeLine/\
   (∀p,atKey xs k=some p->R (.ok (.ret p.2)) {s with toks:=s.toks+knd.draws k})/\
   (atKey xs k=none->∀h',h'.DictOfH knd d (storedH xs k a dflt)->Heap.SameBut d s.heap h'->R (.ok (.ret dflt)) {s with heap:=h',toks:=s.toks+knd.draws k})):=
 .of_wp λA R s ⟨hu,hd,k,xs,hkey,hm,hsz,h1,h2⟩=>by
  unfold Builtin.«dict.setdefault»;refine wpAny_bind ?_;unfold Builtin.Dict.keyAndDefault;refine wpAny_bind (wpAny_notOrdered_dict hm.typeIs ?_);show wpAny _ _ (pure (d,Value.ref a,some dflt)) _ _ s;refine wpAny_pure ?_;show wpAny _ _ (if (d == sysModules)=true then _ else (dictSetDefault d (.ref a) dflt >>= _)) _ _ s;rw[if_neg (by rw[hd];exact Bool.false_ne_true)];exact wpAny_bind (LY hu hkey hm hsz (λp hp=>wpAny_pure ⟨p.2,rfl,h1 p hp⟩) λhn h' hm' hs'=>wpAny_pure ⟨dflt,rfl,h2 hn h' hm' hs'⟩)
end
theorem NY {X:Cx} {pins:List (Addr×Obj)} {σ:St} {H:Hp} {s:Shared} {a b:Addr} {kvs:List (List Key×V)} {k:List Key} {A:Around} {E:Value->Shared->Prop} {r:Value} {z:V} {Q:Value->Shared->Prop} (hu:A.units+1 < cLine) (I:jA X pins σ H s) (e:H a=some (.dT kvs)) (eb:H b=some (.tup (k.map kV))) (rz:sA z r) (hl:kvs.length < sizeLine)
  (h1:∀v,xB kvs k=some v->∀w' s',jA X pins σ H s'->sA v w'->Q w' s')
  (h2:xB kvs k=none->∀s',jA X pins σ (upd H a (.dT (YB kvs k z))) s'->Q r s'):wpAny (model X.prog X.w) A (call (.builtin "dict.setdefault") [.ref a,.ref b,r]) Q E s:=by
 obtain⟨zz,hd,xs,rel,dd⟩:=eK I.hok e;have hz:xs.length<=sizeLine:=by rw[<-Paired.length rel];exact zz
 have hlp:(YB kvs k z).length<=sizeLine:=by have:=yO kvs k z;omega
 refine call_meetsIn PySem.F.slot_dict_setdefault dd.typeIs PySem.F.entry_dict_setdefault (PySem.F.args_dict_setdefault_3 _ _ _) (MY (knd:=tupleKind (QA X.prog X.w))) ⟨tupleKind_room_in1 hu,hd,k,xs,TM I.hok eb,dd,hz,λp hp=>?_,λhn h' dd' hs=>?_⟩
 ·have q:=rel.val k;rw[hp] at q;cases hv:xB kvs k with
  |none=>rw[hv] at q;exact q.elim
  |some v=>rw[hv] at q;exact h1 v hv _ _ (I.tok _) q
 ·have q:=rel.val k;rw[hn] at q;have hv:xB kvs k=none:=by
   cases hv:xB kvs k with
   |none=>rfl
   |some v=>rw[hv] at q;exact q.elim
  refine h2 hv _ ?_;obtain⟨q,es,ep,hq,g2,g3,g4,_,g5⟩:=dd';refine UM I (by rw[e];exact True.intro) hs ⟨q,hq⟩ ⟨hlp,hd,_,(rel.put k eb rz).keeps λc ys ec=>?_,q,es,ep,hq,g2,g3,g4,g5⟩;rw[oA (bC ec e (λz=>nomatch z))];exact ec
noncomputable def XF (td ty tx:TE):TE:=λσ H Q=>td σ H λx H1=>∃a,x=.ref a/\zU H1 a/\ty σ H1 λy H2=>tx σ H2 λz H3=>∃kvs k b,H3 a=some (.dT kvs)/\y=.ref b/\H3 b=some (.tup (k.map kV))/\kvs.length < sizeLine/\
 (∀v,xB kvs k=some v->Q v H3)/\(xB kvs k=none->Q z (upd H3 a (.dT (YB kvs k z))))
theorem OY {X:Cx} {o e f:Expr} {apos cpos:Pos} {td ty tx:TE} (hu:X.A.units+1 < cLine) (ho:PE X o td) (he:PE X e ty) (hf:PE X f tx) (m:M2 X o "setdefault" apos e f cpos):PE X (.Call (.Attribute o "setdefault" apos) [e,f] [] cpos) (XF td ty tx):=by
 intro pins s σ H Q I h;refine wpAny_Call_method m.base m.few m.line PySem.F.plainAttrs_dict PySem.F.slot_dict_setdefault PySem.F.type_dict_setdefault (YA (ho pins s σ H _ I h) λu s1 ⟨x,H1,I1,rx,a,ex,d,q1⟩=>?_);subst ex;obtain rfl:u=Value.ref a:=rx;obtain⟨t1,t2,_⟩:=xI I1 d;refine⟨t1,t2,?_⟩;rw[m.trees];refine Calls.callWith_builtin rfl (Calls.evalArgs_plain (Calls.spliced_cons (YA (he pins s1 σ H1 _ I1 q1) λiv s2 ⟨y,H2,I2,ry,q2⟩=>
  Calls.spliced_cons (YA (hf pins s2 σ H2 _ I2 q2) λfv s3 ⟨z,H3,I3,rz,kvs,k,b,ea,ey,eb,hl,q3,q4⟩=>Calls.spliced_nil ?_))))
 subst ey;cases ry;exact NY hu I3 ea eb rz hl (λv hv w' s4 I4 rw'=>⟨v,_,I4,rw',q3 v hv⟩) λhn s4 I4=>⟨z,_,I4,rz,q4 hn⟩
theorem PY {a:Addr} {o:Obj} {kvs:List (List Key×V)} {g:TG} {tt:TT} {te:TE} {h:FE g tt te} {σ0:St} {D:Addr} {Q:Hp->Prop} {H:Hp} (Pv:Nat->List V->St->Hp->Prop) (h0:Pv 0 [] σ0 (upd H D (.lst []))) (hl:∀i ys σ H,i<=kvs.length->Pv i ys σ H->H a=some (.frz o (.dT kvs)))
  (hs:∀i k x b ys σ H,kvs[i]?=some (k,x)->H b=some (.tup (k.map kV))->Pv i ys σ H->g (.ref b) σ H λσ2 H2=>tt σ2 H2 λc H2'=>if c=true then te σ2 H2' λv H3=>H3 D=some (.lst ys)/\ys.length < sizeLine/\Pv (i+1) (ys++[v]) σ2 (upd H3 D (.lst (ys++[v]))) else Pv (i+1) ys σ2 H2') (hd:∀ys σ H,Pv kvs.length ys σ H->Q H):
  eF g tt te h (RI a o kvs) σ0 D Q H:=by
 refine⟨λi m ys σ H=>i+m=kvs.length/\Pv i ys σ H,⟨kvs.length,Nat.zero_add _,h0⟩,λi m ys σ H ⟨e,p⟩=>?_⟩;have hq:=hl i ys σ H ⋯ p;by_cases hi:i < kvs.length
 ·refine .inr ⟨⟨hq,hi⟩,Pv (i+1),λys σ H q=>⟨m - 1,⋯,⋯,q⟩,?_⟩;rintro y H' ⟨rfl,k,v,b,hk,rfl,hb⟩;exact hs i k v b ys σ _ hk hb p
 ·have e':i=kvs.length:=⋯;subst e';exact .inl ⟨⟨hq,rfl⟩,hd ys σ H p⟩
end L2
namespace L2
open PySem PySem.Spec PyProof.Rows
end L2
namespace L2
open PySem PySem.Spec PyProof.Rows
end L2
namespace L2
open PySem PySem.Spec PyProof.Rows
section
variable {M:Model} {A:Around} {E:Value->Shared->Prop} {s:Shared} {env:Env}
end
section
variable {M:Model} {A:Around} {E:Value->Shared->Prop} {s:Shared} {env:Env}
end
section
variable {X:Cx}
end
end L2
namespace L2
open PySem PySem.Spec PyProof.Rows
section
variable {prog:Program} {w:World} {A:Around} {E:Value->Shared->Prop} {s:Shared}
end
section
variable {prog:Program} {w:World} {A:Around} {E:Value->Shared->Prop} {s:Shared}
end
section
variable {X:Cx}
end
end L2
namespace L2
open PySem PySem.Spec PyProof.Rows
end L2
namespace L2
open PySem PySem.Spec PyProof.Rows
section
variable {K:PySem.W.Frag} {h:Heap} {mg:Str->Option Value} {x qual:Str} {st:Stmt} {ps:List Str} {C f:Addr} {oc:Value} {od an:Option Addr} {osl:Array (Option Value)} {kV doc pm cdv ct:Value}
noncomputable def GF (K:PySem.W.Frag) (x:Str) (st:Stmt):Prop:=∃f fd,PySem.W.nsIn K mainGlobals x=some (some (.ref f))/\AE K x x st f fd
theorem GF.mk (a:PySem.W.nsIn K mainGlobals x=some (some (.ref f))) (l:K.lookup f=some ⟨oc,od,.func (PySem.W.fnOf x x (fB st) (RA st) (bA st) .none kV doc pm an cdv ct),osl⟩) (c:PySem.W.codeIn K cdv x=true) (k:PySem.W.keepIn K (.ref f)=true):GF K x st:=⟨_,_,a,AO l c k⟩
theorem GF.raw (g:GF K x st) (X:K.In h) (G:h.Ns mainGlobals mg) (b:∀(kV doc pm:Value) (an:Option Addr) (cdv ct:Value) (us:List Value),us.length=ps.length->bindArgs (PySem.W.fnOf x x (fB st) (RA st) (bA st) .none kV doc pm an cdv ct) ⟨us,[]⟩=pure (ps.zip us)):DE K mg x x st ps []:=
 let ⟨_,_,a,F⟩:=g
 ⟨_,_,_,PySem.W.mg_of X G a,F,F.binds b,.nil⟩
theorem GF.law (g:GF K x st) (X:K.In h) (G:h.Ns mainGlobals mg) {p:Str} (b:∀(kV doc pm:Value) (an:Option Addr) (cdv ct u:Value),bindArgs (PySem.W.fnOf x x (fB st) (RA st) (bA st) .none kV doc pm an cdv ct) ⟨[u],[]⟩=pure [(p,u)]):∃f fd,mg x=some (.ref f)/\AE K x x st f fd/\∀(s:Shared) (u:Value),BindsTo s fd ⟨[u],[]⟩ [(p,u)]:=by
 obtain⟨f,fd,a,F⟩:=g;refine⟨f,fd,PySem.W.mg_of X G a,F,λs u=>?_⟩;obtain⟨oc,od,kV,doc,pm,an,cdv,ct,osl,rfl,lk,hcd⟩:=F.ex;exact .of_eq (b ..)
noncomputable def MF (K:PySem.W.Frag) (C:Addr) (x qual:Str) (st:Stmt):Prop:=∃f fd,xE K C x f/\AE K x qual st f fd
theorem MF.mk (a:PySem.W.findIn K (.ref C) x=some (some (.ref f))) (i:PySem.W.isFn K (.ref f)=true) (l:K.lookup f=some ⟨oc,od,.func (PySem.W.fnOf x qual (fB st) (RA st) (bA st) .none kV doc pm an cdv ct),osl⟩) (c:PySem.W.codeIn K cdv qual=true) (k:PySem.W.keepIn K (.ref f)=true):MF K C x qual st:=⟨_,_,⟨a,i,k⟩,AO l c k⟩
theorem MF.raw (g:MF K C x qual st) (b:∀(kV doc pm:Value) (an:Option Addr) (cdv ct:Value) (us:List Value),us.length=ps.length->bindArgs (PySem.W.fnOf x qual (fB st) (RA st) (bA st) .none kV doc pm an cdv ct) ⟨us,[]⟩=pure (ps.zip us)):sB K C x qual st ps []:=
 let ⟨_,_,a,F⟩:=g
 ⟨_,_,_,a,F,F.binds b,.nil⟩
noncomputable def IF (K:PySem.W.Frag) (C:Addr) (qual:Str) (st:Stmt):Prop:=∃f fd,Mk K C f/\AE K "__init__" qual st f fd
theorem IF.mk (m:PySem.W.makesIn K C=true) (kc:PySem.W.keepIn K (.ref C)=true) (a:PySem.W.findIn K (.ref C) "__init__"=some (some (.ref f))) (i:PySem.W.isFn K (.ref f)=true) (l:K.lookup f=some ⟨oc,od,.func (PySem.W.fnOf "__init__" qual (fB st) (RA st) (bA st) .none kV doc pm an cdv ct),osl⟩) (c:PySem.W.codeIn K cdv qual=true) (k:PySem.W.keepIn K (.ref f)=true):IF K C qual st:=⟨_,_,⟨m,a,i,kc⟩,AO l c k⟩
theorem IF.raw (g:IF K C qual st) (X:K.In h) (G:h.Ns mainGlobals mg) (n:PySem.W.nsIn K mainGlobals x=some (some (.ref C))) (b:∀(kV doc pm:Value) (an:Option Addr) (cdv ct:Value) (us:List Value),us.length=ps.length->bindArgs (PySem.W.fnOf "__init__" qual (fB st) (RA st) (bA st) .none kV doc pm an cdv ct) ⟨us,[]⟩=pure (ps.zip us)):cF K mg x C qual st ps []:=
 let ⟨_,_,a,F⟩:=g
 ⟨_,_,_,PySem.W.mg_of X G n,a,F,F.binds b,.nil⟩
end
end L2
namespace L2
open PySem PySem.Spec PyProof.Rows
namespace ST
noncomputable def ZM (m i:Nat):Nat:=(i * 5+1) % (m+1)
noncomputable def aN (m:Nat):Nat->Nat->List Nat
 |0,_=>[]
 |k+1,i=>i::aN m k (ZM m i)
theorem YO:∀i,i < 8->∀j,j < 8->j∈aN 7 8 i:=by decide
theorem yL:∀i,i < 32->∀j,j < 32->j∈aN 31 32 i:=∅
noncomputable def gF (m:Nat):Nat->Nat->Nat
 |0,i=>i
 |k+1,i=>gF m k (ZM m i)
theorem ZO {m j:Nat}:∀{k i:Nat},j∈aN m k i->∃n,n < k/\gF m n i=j
 |0,_,h=>by cases h
 |k+1,i,h=>by
  rcases List.mem_cons.mp h with h|h
  ·exact⟨0,⋯,h.symm⟩
  ·obtain⟨n,h1,h2⟩:=ZO h;exact⟨n+1,⋯,h2⟩
noncomputable def Mk (m:Nat):Prop:=m=7\/m=31
theorem QY {m:Nat} (hm:Mk m) {i j:Nat} (hi:i<=m) (hj:j<=m):∃n,n<=m/\gF m n i=j:=by
 rcases hm with rfl|rfl
 ·obtain⟨n,h1,h2⟩:=ZO (YO i ⋯ j ⋯);exact⟨n,⋯,h2⟩
 ·obtain⟨n,h1,h2⟩:=ZO (yL i ⋯ j ⋯);exact⟨n,⋯,h2⟩
noncomputable def lp (m:Nat):Nat->Nat×Nat->Nat×Nat
 |0,x=>x
 |k+1,x=>SetTable.leap m (lp m k x).1 (lp m k x).2
theorem zL {m:Nat} {x:Nat×Nat} (h:x.1<=m):∀k,(lp m k x).1<=m
 |0=>h
 |k+1=>by
  show (_ % (m+1))<=m;have:=Nat.mod_lt ((lp m k x).1 * 5+1+(lp m k x).2 / 32) (show 0 < m+1 by omega);omega
theorem sV {m:Nat} {x:Nat×Nat}:∀k,(lp m k x).2=x.2 / 32 ^ k
 |0=>by show x.2=_;rw[Nat.pow_zero,Nat.div_one]
 |k+1=>by
  show (lp m k x).2 / 32=_;rw[sV k,Nat.div_div_eq_div_mul,Nat.pow_succ]
theorem XI {m:Nat} {x:Nat×Nat} (hx:x.2 < 2 ^ 64) {k:Nat} (hk:13<=k):(lp m k x).2=0:=by
 rw[sV];apply Nat.div_eq_of_lt;have:(32:Nat) ^ 13<=32 ^ k:=Nat.pow_le_pow_right ⋯ hk;have e:(32:Nat) ^ 13=2 ^ 65:=by decide
 omega
theorem tV {m:Nat}:∀{n i:Nat},gF m (n+1) i=ZM m (gF m n i)
 |0,_=>rfl
 |n+1,i=>tV (n:=n) (i:=ZM m i)
theorem uV {m:Nat} {x:Nat×Nat} (hx:x.2 < 2 ^ 64):∀n,(lp m (13+n) x).1=gF m n (lp m 13 x).1
 |0=>rfl
 |n+1=>by
  rw[tV,<-uV hx n];show ((lp m (13+n) x).1 * 5+1+(lp m (13+n) x).2 / 32) % (m+1)=_;rw[XI hx ⋯]
  rfl
theorem YI {m:Nat} (hm:Mk m) {x:Nat×Nat} (h:x.1<=m) (hx:x.2 < 2 ^ 64) {j:Nat} (hj:j<=m):∃k,k<=13+m/\(lp m k x).1=j:=by
 obtain⟨n,h1,h2⟩:=QY hm (zL h 13) hj;exact⟨13+n,⋯,by rw[uV hx];exact h2⟩
theorem RY (h:Int):SetTable.bits h < 2 ^ 64:=by unfold SetTable.bits;omega
theorem vV {m:Nat} {x:Nat×Nat}:∀n,lp m (n+1) x=lp m n (SetTable.leap m x.1 x.2)
 |0=>rfl
 |n+1=>by
  show SetTable.leap m (lp m (n+1) x).1 (lp m (n+1) x).2=_;rw[vV n]
  rfl
theorem wV {m:Nat} {ow:Array (Option Nat)}:∀{n fuel:Nat} {x:Nat×Nat},n < fuel->ow.getD (lp m n x).1 (some 0)=none->∃j,SetTable.layClean.free m ow fuel x.1 x.2=some j/\ow.getD j (some 0)=none
 |n,fuel+1,x,hf,he=>by
  unfold SetTable.layClean.free;cases e:(List.range (SetTable.runEnd m x.1+1 - x.1)).find? λk=>(ow.getD (x.1+k) (some 0)).isNone with
  |some k=>
   have h1:=List.find?_some e;exact⟨_,rfl,Option.isNone_iff_eq_none.mp h1⟩
  |none=>
   dsimp only;cases n with
   |zero=>
    exfalso;have h1:=List.find?_eq_none.mp e 0 (List.mem_range.mpr (by unfold SetTable.runEnd;split<;>omega));apply h1;rw[Nat.add_zero];exact Option.isNone_iff_eq_none.mpr he
   |succ n=>
    rw[vV] at he;exact wV (x:=SetTable.leap m x.1 x.2) ⋯ he
structure Ow (m:Nat) (ow:Array (Option Nat)) (js:List Nat):Prop where
 sz:ow.size=m+1
 nd:js.Nodup
 le:∀j∈js,j<=m
 at_:∀j,j<=m->ow[j]?=some (if j∈js then some (js.idxOf j) else none)
theorem Ow.zero (m:Nat):Ow m (Array.replicate (m+1) none) []:=⟨by simp,.nil,(λj h=>by cases h),λj hj=>by
 rw[Array.getElem?_replicate,if_pos ⋯];rfl⟩
theorem Ow.next {m:Nat} (hm:Mk m) {ow:Array (Option Nat)} {js:List Nat} (h:Ow m ow js) (hl:js.length<=m) (hs:Int):
  ∃j,SetTable.layClean.free m ow (SetTable.turns m) (SetTable.bits hs % (m+1)) (SetTable.bits hs)=some j/\Ow m (ow.setIfInBounds j (some js.length)) (js++[j]):=by
 have hno:∃j,j<=m/\j∉js:=by
  apply Classical.byContradiction;intro hno;have sub:List.range (m+1) ⊆ js:=λj hj=>Classical.byContradiction λq=>hno ⟨j,by have:=List.mem_range.mp hj;omega,q⟩;have:=(List.nodup_range (n:=m+1)).length_le_of_subset sub;rw[List.length_range] at this;omega
 obtain⟨j0,hj0,hj1⟩:=hno;have h1:SetTable.bits hs % (m+1)<=m:=by
  have:=Nat.mod_lt (SetTable.bits hs) (show 0 < m+1 by omega);omega
 obtain⟨k,hk,e1⟩:=YI hm (x:=(SetTable.bits hs % (m+1),SetTable.bits hs)) h1 (RY hs) hj0;obtain⟨j,e2,e3⟩:=wV (m:=m) (ow:=ow) (n:=k) (fuel:=SetTable.turns m) (x:=(SetTable.bits hs % (m+1),SetTable.bits hs)) (by unfold SetTable.turns;omega) (by
  rw[e1,Array.getD_eq_getD_getElem?,h.at_ j0 hj0,if_neg hj1];rfl)
 refine⟨j,e2,?_⟩;have hjm:j<=m:=by
  apply Classical.byContradiction;intro q;rw[Array.getD_eq_getD_getElem?,Array.getElem?_eq_none (by rw[h.sz];omega)] at e3;cases e3
 have hjn:j∉js:=λq=>by
  rw[Array.getD_eq_getD_getElem?,h.at_ j hjm,if_pos q] at e3;cases e3
 refine⟨by rw[Array.size_setIfInBounds];exact h.sz,?_,?_,λi hi=>?_⟩
 ·rw[List.nodup_append];refine⟨h.nd,by simp,λa ha b hb e=>?_⟩;rw[List.mem_singleton.mp hb] at e;exact hjn (e ▸ ha)
 ·intro i hi;rcases List.mem_append.mp hi with q|q
  ·exact h.le i q
  ·rw[List.mem_singleton.mp q];exact hjm
 ·rw[Array.getElem?_setIfInBounds];by_cases q:j=i
  ·subst q;rw[if_pos rfl,if_pos (by rw[h.sz];omega),if_pos (List.mem_append_right _ (List.mem_singleton.mpr rfl)),List.idxOf_append,if_neg hjn];simp
  ·rw[if_neg q,h.at_ i hi];by_cases r:i∈js
   ·rw[if_pos r,if_pos (List.mem_append_left _ r),List.idxOf_append,if_pos r]
   ·rw[if_neg r,if_neg];intro z;rcases List.mem_append.mp z with z|z
    ·exact r z
    ·exact q (List.mem_singleton.mp z).symm
section
variable {prog:Program} {w:World} {A:Around} {E:Value->Shared->Prop} {s:Shared} {a:Addr} {o:Obj} {items:Array Value} {n:Nat} {Q:Bool->Shared->Prop}
end
section
variable {prog:Program} {w:World} {K:Type} [DecidableEq K] {knd:KeyKind prog w K} {A:Around} {E:Value->Shared->Prop} {s:Shared} {S a:Addr} {o:Obj} {es:Array (Int×Value)} {ep:Nat} {t:SetTable} {k:List K}
end
section
variable {prog:Program} {w:World} {K:Type} [DecidableEq K] {knd:KeyKind prog w K} {A:Around} {E:Value->Shared->Prop} {s:Shared} {S a:Addr} {k:List K} {ks:List (List K)}
noncomputable def TB (knd:KeyKind prog w K) (h:Heap) (S:Addr) (ks:List (List K)):Prop:=∃o es ep t,h.get? S=some o/\o.ExactSet/\o.data=.set es ep t/\Mk t.mask/\t.dummies= #[]/\t.place.size=es.size/\es.size=ks.length/\(t.mask=7->es.size<=4)/\
 ∀e∈es.toList,∃k' b,k'∈ks/\e=(tupleKeyHash knd k',.ref b)/\IsTupleKey knd h k' b
end
section
variable {prog:Program} {w:World} {K:Type} [DecidableEq K] {knd:KeyKind prog w K} {A:Around} {R:Result->Shared->Prop} {I:Addr} {fp wr:List Addr} {G:Array GenState->Array GenState->Prop} {n:Nat} {P:Nat->Value->Prop} {St:Nat->Shared->Prop}
theorem ZI {h h':Heap} {k:List K} {a:Addr} (x:IsTupleKey knd h k a) (hk:∀o,h.get? a=some o->h'.get? a=some o):IsTupleKey knd h' k a:=by
 obtain⟨o',items,n,ho',hc,hd',hi⟩:=x;exact⟨o',items,n,hk _ ho',hc,hd',hi⟩
theorem TB.keep {h h':Heap} {S:Addr} {ks:List (List K)} (hT:TB knd h S ks) (hS:∀o,h.get? S=some o->h'.get? S=some o) (hk:∀b k,IsTupleKey knd h k b->∀o,h.get? b=some o->h'.get? b=some o):TB knd h' S ks:=by
 obtain⟨o,es,ep,t,ho,h1,h2,h3,h4,h5,h6,h7,h8⟩:=hT;refine⟨o,es,ep,t,hS _ ho,h1,h2,h3,h4,h5,h6,h7,λe he=>?_⟩;obtain⟨k',b,a1,a2,a3⟩:=h8 e he;exact⟨k',b,a1,a2,ZI a3 (hk b k' a3)⟩
end
section
variable {prog:Program} {w:World} {K:Type} [DecidableEq K] {knd:KeyKind prog w K} {A:Around} {E:Value->Shared->Prop} {s:Shared}
end
end ST
end L2
namespace L2
open PySem PySem.Spec PyProof.Rows
end L2
namespace L2
open PySem PySem.Spec PyProof.Rows
namespace TS
noncomputable def Od (kd:SortKind) (Ok:Keyed->Prop) (rk:Keyed->Int) (M:Model) (A:Around) (E:Value->Shared->Prop) (s:Shared):Prop:=
 ∀(st:SortSt) (x y:Keyed) (Q:Option Bool->SortSt->Prop),kindOf st=kd->Ok x->Ok y->Q (some (decide (rk x < rk y))) st->wpS M A E s (lt' x y) Q st
noncomputable def Kr (rk:Keyed->Int) (xs:Array Keyed) (i:Nat):Int:=match xs[i]? with
 |some p=>rk p
 |none=>0
theorem aJ {rk:Keyed->Int} {xs ys:Array Keyed} {i j:Nat} (h:xs[i]?=ys[j]?):Kr rk xs i=Kr rk ys j:=by unfold Kr;rw[h]
theorem YC {rk:Keyed->Int} {xs:Array Keyed} {i:Nat} {p:Keyed} (h:xs[i]?=some p):Kr rk xs i=rk p:=by unfold Kr;rw[h]
noncomputable def BC (rk:Keyed->Int) (xs:Array Keyed) (lo n:Nat):Prop:=∀i j,i<=j->j < n->Kr rk xs (lo+i)<=Kr rk xs (lo+j)
noncomputable def kK (rk:Keyed->Int) (xs:Array Keyed) (lo n:Nat):Prop:=∀i j,i<=j->j < n->Kr rk xs (lo+j)<=Kr rk xs (lo+i)
noncomputable def IC (xs ys:Array Keyed) (lo n:Nat):Prop:=∀k,k < lo\/lo+n<=k->ys[k]?=xs[k]?
theorem IC.rfl' {xs:Array Keyed} {lo n:Nat}:IC xs xs lo n:=λ_ _=>rfl
theorem IC.trans {xs ys zs:Array Keyed} {lo n:Nat} (h:IC xs ys lo n) (g:IC ys zs lo n):IC xs zs lo n:=λk hk=>(g k hk).trans (h k hk)
theorem IC.wide {xs ys:Array Keyed} {lo n lo' n':Nat} (h:IC xs ys lo n) (h1:lo'<=lo) (h2:lo+n<=lo'+n'):IC xs ys lo' n':=λk hk=>h k ⋯
theorem BC.out {rk:Keyed->Int} {xs ys:Array Keyed} {lo n lo' n':Nat} (h:BC rk xs lo n) (o:IC xs ys lo' n') (d:lo+n<=lo'\/lo'+n'<=lo):BC rk ys lo n:=λi j hij hj=>by
 rw[aJ (o (lo+i) ⋯),aJ (o (lo+j) ⋯)];exact h i j hij hj
structure Sb (a₀:Array Keyed) (kd:SortKind) (pd:Array (Nat×Nat×Nat)) (st:SortSt):Prop where
 perm:(arrOf st).Perm a₀
 kind:kindOf st=kd
 failed:failedOf st=none
 pend:pendingOf st=pd
theorem Sb.size {a₀:Array Keyed} {kd:SortKind} {pd:Array (Nat×Nat×Nat)} {st:SortSt} (h:Sb a₀ kd pd st):(arrOf st).size=a₀.size:=h.perm.size_eq
theorem Sb.set {a₀:Array Keyed} {kd:SortKind} {pd:Array (Nat×Nat×Nat)} {st:SortSt} (h:Sb a₀ kd pd st) {xs:Array Keyed} (hp:xs.Perm (arrOf st)):Sb a₀ kd pd (setArr st xs):=⟨hp.trans h.perm,h.kind,h.failed,h.pend⟩
noncomputable def KB (Ok:Keyed->Prop) (a₀:Array Keyed):Prop:=∀p∈a₀.toList,Ok p
theorem Sb.at {Ok:Keyed->Prop} {a₀:Array Keyed} {kd:SortKind} {pd:Array (Nat×Nat×Nat)} {st:SortSt} (h:Sb a₀ kd pd st) (h0:KB Ok a₀) {i:Nat} (hi:i < a₀.size):∃p,(arrOf st)[i]?=some p/\Ok p:=by
 have hi':i < (arrOf st).size:=by rw[h.size];exact hi
 have hm:(arrOf st)[i]∈a₀.toList:=(Array.perm_iff_toList_perm.mp h.perm).mem_iff.mp (by simp);exact⟨_,getElem?_pos _ i hi',h0 _ hm⟩
section
variable {M:Model} {A:Around} {E:Value->Shared->Prop} {s:Shared} {a₀:Array Keyed} {kd:SortKind} {pd:Array (Nat×Nat×Nat)} {Ok:Keyed->Prop} {rk:Keyed->Int}
theorem dD {xs:Array Keyed} {i:Nat} {p:Keyed} {Q:Keyed->SortSt->Prop} {st:SortSt} (h:xs[i]?=some p) (q:Q p st):wpS M A E s (elem' xs i) Q st:=by
 rw[elem'_eq,h];exact wpS_pure q
theorem AL {st:SortSt} {i j:Nat} {Q:Option Bool->SortSt->Prop} (od:Od kd Ok rk M A E s) (hB:Sb a₀ kd pd st) (h0:KB Ok a₀) (hi:i < a₀.size) (hj:j < a₀.size)
  (h:Q (some (decide (Kr rk (arrOf st) i < Kr rk (arrOf st) j))) st):wpS M A E s (ltAt' i j) Q st:=by
 obtain⟨p,e1,o1⟩:=hB.at h0 hi;obtain⟨q,e2,o2⟩:=hB.at h0 hj;rw[ltAt'_eq];refine wpS_bind (wpS_get ?_);show wpS _ _ _ _ (do let x<-elem' (arrOf st) i;let y<-elem' (arrOf st) j;lt' x y) Q st;refine wpS_bind (dD e1 (wpS_bind (dD e2 ?_)));rw[YC e1,YC e2] at h;exact od st p q Q hB.kind o1 o2 h
theorem xV {xs:Array Keyed} {src d:Nat} (hs:src < xs.size) (hd:d<=src) (k:Nat):
  Kr rk (bubble xs src d) k=if k=src - d then Kr rk xs src else if src - d < k/\k<=src then Kr rk xs (k - 1) else Kr rk xs k:=by
 have e:=getElem?_bubble hs d hd k;by_cases h1:k=src - d
 ·rw[if_pos h1] at e ⊢;exact aJ e
 ·rw[if_neg h1] at e ⊢;by_cases h2:src - d < k/\k<=src
  ·rw[if_pos h2] at e ⊢;exact aJ e
  ·rw[if_neg h2] at e ⊢;exact aJ e
theorem aP {xs:Array Keyed} {i j:Nat} (hj:j<=xs.size) (k:Nat):
  Kr rk (mirror xs i j ((j - i) / 2)) k=if i<=k/\k < j then Kr rk xs (i+j - 1 - k) else Kr rk xs k:=by
 have e:=getElem?_mirror_all (i:=i) hj k;by_cases h1:i<=k/\k < j
 ·rw[if_pos h1] at e ⊢;exact aJ e
 ·rw[if_neg h1] at e ⊢;exact aJ e
theorem BL {xs:Array Keyed} {i j:Nat} (hj:j<=xs.size) (heq:∀k,i<=k->k < j->Kr rk xs k=Kr rk xs (j - 1)) (k:Nat):
  Kr rk (mirror xs i j ((j - i) / 2)) k=Kr rk xs k:=by
 rw[aP hj]
 split
 ·rw[heq _ ⋯ ⋯,heq k ⋯ ⋯]
 ·rfl
theorem bN {xs:Array Keyed} {i j lo n:Nat} (hj:j<=xs.size) (h1:lo<=i) (h2:j<=lo+n):IC xs (mirror xs i j ((j - i) / 2)) lo n:=λk hk=>by
 rw[getElem?_mirror_all hj,if_neg ⋯]
theorem SY {xs:Array Keyed} {src d lo n:Nat} (hs:src < xs.size) (hd:d<=src) (h1:lo<=src - d) (h2:src < lo+n):IC xs (bubble xs src d) lo n:=λk hk=>by
 rw[getElem?_bubble hs d hd,if_neg ⋯,if_neg ⋯]
theorem TY {st:SortSt} {lo n ok:Nat} {Q:Bool->SortSt->Prop} (od:Od kd Ok rk M A E s) (h0:KB Ok a₀) (hn:lo+n<=a₀.size) (hok:ok<=n) (hB:Sb a₀ kd pd st) (hs:BC rk (arrOf st) lo ok)
  (h:∀st',Sb a₀ kd pd st'->BC rk (arrOf st') lo n->IC (arrOf st) (arrOf st') lo n->Q true st'):wpS M A E s (binarySort' lo n ok) Q st:=by
 rw[binarySort'_eq];refine wpS_bind (wpS_mono (wpS_forRange (I:=λk c st'=>c=(none,())/\Sb a₀ kd pd st'/\BC rk (arrOf st') lo (min k n)/\IC (arrOf st) (arrOf st') lo n)
  (Q:=λc st'=>c=(none,())/\Sb a₀ kd pd st'/\BC rk (arrOf st') lo n/\IC (arrOf st) (arrOf st') lo n) ?step ?fin ?init) ?post)
 case post=>
  rintro c st' ⟨rfl,hB',hs',ho⟩;exact wpS_pure (h st' hB' hs' ho)
 case init=>
  refine⟨rfl,hB,λi j hij hj=>?_,IC.rfl'⟩;by_cases h1:ok=0
  ·have:i=j:=⋯;subst this;exact Int.le_refl _
  ·exact hs i j hij ⋯
 case fin=>
  rintro c st' ⟨hc,hB',hs',ho⟩;refine⟨hc,hB',?_,ho⟩;rwa[show min (max (max ok 1) n) n=n by omega] at hs'
 case step=>
  rintro k c st' hak hkn ⟨rfl,hB',hs',ho⟩;rw[show min k n=k by omega] at hs';have hk:lo+k < a₀.size:=⋯;refine wpS_bind (wpS_mono (wpS_forRange (I:=λx c st''=>st''=st'/\∃l r,c=(none,l,r)/\l<=r/\r<=k/\r - l<=k - x/\
    (∀i,i < l->Kr rk (arrOf st') (lo+i)<=Kr rk (arrOf st') (lo+k))/\(∀i,r<=i->i < k->Kr rk (arrOf st') (lo+k) < Kr rk (arrOf st') (lo+i)))
   (Q:=λc st''=>st''=st'/\∃l r,c=(none,l,r)/\l<=k/\
    (∀i,i < l->Kr rk (arrOf st') (lo+i)<=Kr rk (arrOf st') (lo+k))/\(∀i,l<=i->i < k->Kr rk (arrOf st') (lo+k) < Kr rk (arrOf st') (lo+i))) ?istep ?ifin ?iinit) ?ipost)
  case iinit=>exact⟨rfl,0,k,rfl,⋯,⋯,⋯,λi hi=>⋯,λi h1 h2=>⋯⟩
  case ifin=>
   rintro c st'' ⟨rfl,l,r,rfl,hlr,hrk,hm,hlo,hhi⟩;have:l=r:=⋯;subst this;exact⟨rfl,l,l,rfl,hrk,hlo,hhi⟩
  case istep=>
   rintro x c st'' _ hxk ⟨rfl,l,r,rfl,hlr,hrk,hm,hlo,hhi⟩;dsimp only;by_cases hge:l>=r
   ·rw[if_pos hge];have:l=r:=⋯;subst this;exact wpS_pure ⟨rfl,l,l,rfl,hrk,hlo,hhi⟩
   ·rw[if_neg hge];refine wpS_bind (AL od hB' h0 hk ⋯ ?_);by_cases hless:Kr rk (arrOf st'') (lo+k) < Kr rk (arrOf st'') (lo+(l+r) / 2)
    ·simp only[hless,decide_true,if_true];refine wpS_pure ⟨rfl,l,(l+r) / 2,rfl,⋯,⋯,⋯,hlo,λi h1 h2=>?_⟩;exact Int.lt_of_lt_of_le hless (hs' _ _ h1 h2)
    ·simp only[hless,decide_false,Bool.false_eq_true,if_false];refine wpS_pure ⟨rfl,(l+r) / 2+1,r,rfl,⋯,⋯,⋯,λi h1=>?_,hhi⟩;exact Int.le_trans (hs' i ((l+r) / 2) ⋯ ⋯) (Int.not_lt.mp hless)
  case ipost=>
   rintro c st'' ⟨rfl,l,r,rfl,hlk,hlo,hhi⟩;show wpS _ _ _ _ (do moveDown' (lo+k) (lo+l);pure (ForInStep.yield (none,()))) _ _;rw[moveDown'_eq];have hks:lo+k < (arrOf st'').size:=by rw[hB'.size];exact hk
   refine wpS_bind (wpS_modify (wpS_pure ⟨rfl,hB'.set (bubble_perm _ _ _),?_,ho.trans (SY hks ⋯ ⋯ ⋯)⟩));rw[show min (k+1) n=k+1 by omega];intro i j hij hj;show Kr rk (bubble (arrOf st'') (lo+k) (lo+k - (lo+l))) (lo+i)<=Kr rk (bubble (arrOf st'') (lo+k) (lo+k - (lo+l))) (lo+j);rw[xV hks ⋯,xV hks ⋯,show lo+k - (lo+k - (lo+l))=lo+l by omega]
   repeat' split
   all_goals first
    |(exfalso;omega)
    |exact Int.le_refl _
    |exact hlo _ ⋯
    |(rw[show lo+j - 1=lo+(j - 1) by omega];exact Int.le_of_lt (hhi _ ⋯ ⋯))
    |exact hs' _ _ ⋯ ⋯
    |(rw[show lo+j - 1=lo+(j - 1) by omega];exact hs' _ _ ⋯ ⋯)
    |(rw[show lo+i - 1=lo+(i - 1) by omega,show lo+j - 1=lo+(j - 1) by omega];exact hs' _ _ ⋯ ⋯)
    |(rw[show lo+i - 1=lo+(i - 1) by omega];exact hs' _ _ ⋯ ⋯)
end
noncomputable def SD (lo a nrem:Nat):StateT SortSt Sem AscSt:=
 forIn [a:nrem] ((none,a):AscSt) λ_ __s=>do
  let __x<-ltAt' (lo+__s.snd) (lo+__s.snd - 1)
  match __x with
  |some smaller=>if smaller=true then pure (ForInStep.done (none,__s.snd)) else pure (ForInStep.yield (none,__s.snd+1))
  |_=>pure (ForInStep.done (some none,__s.snd))
noncomputable def ED (lo n nrem:Nat):StateT SortSt Sem (Option Nat):=do
 reverseSlice' lo (lo+n)
 let __s<-SD lo n nrem
 match __s.fst with
 |some r=>pure r
 |none=>pure (some __s.snd)
noncomputable def gE (lo n nrem:Nat):StateT SortSt Sem DescSt:=
 forIn [n:nrem] ((none,n,0):DescSt) λ_ __s=>do
  let __x<-ltAt' (lo+__s.snd.fst) (lo+__s.snd.fst - 1)
  match __x with
  |some smaller=>
   if smaller=true then
    if __s.snd.snd > 0 then do
     reverseSlice' (lo+__s.snd.fst - (__s.snd.snd+1)) (lo+__s.snd.fst)
     pure (ForInStep.yield (none,__s.snd.fst+1,0))
    else pure (ForInStep.yield (none,__s.snd.fst+1,0))
   else do
    let __x<-ltAt' (lo+__s.snd.fst - 1) (lo+__s.snd.fst)
    match __x with
    |some larger=>
     if larger=true then pure (ForInStep.done (none,__s.snd.fst,__s.snd.snd))
     else pure (ForInStep.yield (none,__s.snd.fst+1,__s.snd.snd+1))
    |_=>pure (ForInStep.done (some none,__s.snd.fst,__s.snd.snd))
  |_=>pure (ForInStep.done (some none,__s.snd.fst,__s.snd.snd))
noncomputable def MC (lo n nrem:Nat):StateT SortSt Sem (Option Nat):=do
 liftM (rule "list.sort.descending-run")
 let __s<-gE lo (n+1) nrem
 match __s.fst with
 |some r=>pure r
 |none=>
  if __s.snd.snd > 0 then do
   reverseSlice' (lo+__s.snd.fst - (__s.snd.snd+1)) (lo+__s.snd.fst)
   ED lo __s.snd.fst nrem
  else ED lo __s.snd.fst nrem
theorem UY (lo nrem:Nat):countRun' lo nrem=(do
  let __s<-SD lo 1 nrem
  match __s.fst with
  |some r=>pure r
  |none=>
   if (__s.snd == nrem)=true then pure (some __s.snd)
   else if __s.snd > 1 then do
    let __x<-ltAt' lo (lo+__s.snd - 1)
    match __x with
    |some rose=>if rose=true then pure (some __s.snd) else do
      reverseSlice' lo (lo+__s.snd)
      MC lo __s.snd nrem
    |_=>pure none
   else MC lo __s.snd nrem):=by
 rw[countRun'_eq];refine congrArg (Bind.bind (SD lo 1 nrem)) (funext λx=>?_);obtain⟨r,n⟩:=x;cases r with
 |some r=>rfl
 |none=>
  dsimp only
  split
  ·rfl
  ·split
   ·refine congrArg (Bind.bind (ltAt' lo (lo+n - 1))) (funext λx=>?_);cases x with
    |none=>rfl
    |some rose=>
     dsimp only
     split
     ·rfl
     ·refine congrArg (Bind.bind (reverseSlice' lo (lo+n))) (funext λ_=>?_);unfold MC;refine congrArg (Bind.bind (liftM (rule "list.sort.descending-run"))) (funext λ_=>?_);refine congrArg (Bind.bind (gE lo (n+1) nrem)) (funext λx=>?_);obtain⟨r2,n2,q2⟩:=x;cases r2 with
      |some r2=>rfl
      |none=>
       unfold ED;dsimp only
       split
       ·refine congrArg (Bind.bind (reverseSlice' (lo+n2 - (q2+1)) (lo+n2))) (funext λ_=>?_);refine congrArg (Bind.bind (reverseSlice' lo (lo+n2))) (funext λ_=>congrArg (Bind.bind (SD lo n2 nrem)) (funext λx=>?_));obtain⟨r3,n3⟩:=x;cases r3<;>rfl
       ·refine congrArg (Bind.bind (reverseSlice' lo (lo+n2))) (funext λ_=>congrArg (Bind.bind (SD lo n2 nrem)) (funext λx=>?_));obtain⟨r3,n3⟩:=x;cases r3<;>rfl
   ·unfold MC;refine congrArg (Bind.bind (liftM (rule "list.sort.descending-run"))) (funext λ_=>?_);refine congrArg (Bind.bind (gE lo (n+1) nrem)) (funext λx=>?_);obtain⟨r2,n2,q2⟩:=x;cases r2 with
    |some r2=>rfl
    |none=>
     unfold ED;dsimp only
     split
     ·refine congrArg (Bind.bind (reverseSlice' (lo+n2 - (q2+1)) (lo+n2))) (funext λ_=>?_);refine congrArg (Bind.bind (reverseSlice' lo (lo+n2))) (funext λ_=>congrArg (Bind.bind (SD lo n2 nrem)) (funext λx=>?_));obtain⟨r3,n3⟩:=x;cases r3<;>rfl
     ·refine congrArg (Bind.bind (reverseSlice' lo (lo+n2))) (funext λ_=>congrArg (Bind.bind (SD lo n2 nrem)) (funext λx=>?_));obtain⟨r3,n3⟩:=x;cases r3<;>rfl
section
variable {M:Model} {A:Around} {E:Value->Shared->Prop} {s:Shared} {a₀:Array Keyed} {kd:SortKind} {pd:Array (Nat×Nat×Nat)} {Ok:Keyed->Prop} {rk:Keyed->Int}
theorem cN {st:SortSt} {i j:Nat} {Q:Unit->SortSt->Prop} (h:Q () (setArr st (mirror (arrOf st) i j ((j - i) / 2)))):wpS M A E s (reverseSlice' i j) Q st:=by
 rw[reverseSlice'_eq];exact wpS_modify h
theorem vH {st:SortSt} {lo a nrem:Nat} {Q:AscSt->SortSt->Prop} (od:Od kd Ok rk M A E s) (h0:KB Ok a₀) (hn:lo+nrem<=a₀.size) (ha:1<=a) (han:a<=nrem) (hB:Sb a₀ kd pd st)
  (hs:BC rk (arrOf st) lo a)
  (h:∀n,a<=n->n<=nrem->BC rk (arrOf st) lo n->(n=nrem\/Kr rk (arrOf st) (lo+n) < Kr rk (arrOf st) (lo+n - 1))->Q (none,n) st):
  wpS M A E s (SD lo a nrem) Q st:=by
 unfold SD;refine wpS_forRange (I:=λx c st'=>st'=st/\c=(none,x)/\BC rk (arrOf st) lo x) ?step ?fin ⟨rfl,rfl,hs⟩
 case fin=>
  rintro c st' ⟨rfl,rfl,hs'⟩;rw[show max a nrem=nrem by omega] at hs' ⊢;exact h nrem han (Nat.le_refl _) hs' (.inl rfl)
 case step=>
  rintro x c st' hax hxn ⟨rfl,rfl,hs'⟩;dsimp only;refine wpS_bind (AL od hB h0 ⋯ ⋯ ?_);by_cases hless:Kr rk (arrOf st') (lo+x) < Kr rk (arrOf st') (lo+x - 1)
  ·simp only[hless,decide_true,if_true];exact wpS_pure (h x hax ⋯ hs' (.inr hless))
  ·simp only[hless,decide_false,Bool.false_eq_true,if_false];refine wpS_pure ⟨rfl,rfl,λi j hij hj=>?_⟩;by_cases hjx:j < x
   ·exact hs' i j hij hjx
   ·have hj':j=x:=⋯;subst hj';by_cases hi':i=j
    ·subst hi';exact Int.le_refl _
    ·have:=hs' i (j - 1) ⋯ ⋯;rw[show lo+(j - 1)=lo+j - 1 by omega] at this;exact Int.le_trans this (Int.not_lt.mp hless)
theorem yV {st:SortSt} {lo n nrem:Nat} {Q:Option Nat->SortSt->Prop} (od:Od kd Ok rk M A E s) (h0:KB Ok a₀) (hn:lo+nrem<=a₀.size) (h1:1<=n) (hnn:n<=nrem) (hB:Sb a₀ kd pd st)
  (hs:kK rk (arrOf st) lo n) (h:∀m st',Sb a₀ kd pd st'->1<=m->m<=nrem->BC rk (arrOf st') lo m->IC (arrOf st) (arrOf st') lo nrem->Q (some m) st'):
  wpS M A E s (ED lo n nrem) Q st:=by
 unfold ED;have hsz:lo+n<=(arrOf st).size:=by rw[hB.size];omega
 refine wpS_bind (cN ?_);have hB':Sb a₀ kd pd (setArr st (mirror (arrOf st) lo (lo+n) ((lo+n - lo) / 2))):=hB.set (mirror_perm _ _ _ _);refine wpS_bind (vH od h0 hn h1 hnn hB' ?_ λm hm1 hm2 hsm _=>wpS_pure (h m _ hB' ⋯ hm2 hsm (bN hsz (Nat.le_refl _) ⋯)));intro i j hij hj;show Kr rk (mirror (arrOf st) lo (lo+n) ((lo+n - lo) / 2)) (lo+i)<=Kr rk (mirror (arrOf st) lo (lo+n) ((lo+n - lo) / 2)) (lo+j);rw[aP hsz,aP hsz,if_pos ⋯,if_pos ⋯];have:=hs (n - 1 - j) (n - 1 - i) ⋯ ⋯;rw[show lo+(lo+n) - 1 - (lo+i)=lo+(n - 1 - i) by omega,show lo+(lo+n) - 1 - (lo+j)=lo+(n - 1 - j) by omega];exact this
theorem bJ {st:SortSt} {lo n nrem:Nat} {Q:DescSt->SortSt->Prop} (od:Od kd Ok rk M A E s) (h0:KB Ok a₀) (hn:lo+nrem<=a₀.size) (h1:1<=n) (hnn:n<=nrem) (hB:Sb a₀ kd pd st)
  (hs:kK rk (arrOf st) lo n)
  (h:∀m neq st',Sb a₀ kd pd st'->n<=m->m<=nrem->kK rk (arrOf st') lo m->neq+1<=m->(∀i,m - (neq+1)<=i->i < m->Kr rk (arrOf st') (lo+i)=Kr rk (arrOf st') (lo+m - 1))->IC (arrOf st) (arrOf st') lo nrem->Q (none,m,neq) st'):
  wpS M A E s (gE lo n nrem) Q st:=by
 unfold gE;refine wpS_forRange (I:=λx c st'=>∃neq,c=(none,x,neq)/\Sb a₀ kd pd st'/\kK rk (arrOf st') lo x/\neq+1<=x/\
   (∀i,x - (neq+1)<=i->i < x->Kr rk (arrOf st') (lo+i)=Kr rk (arrOf st') (lo+x - 1))/\IC (arrOf st) (arrOf st') lo nrem) ?step ?fin ⟨0,rfl,hB,hs,⋯,λi h1 h2=>by congr 1;omega,IC.rfl'⟩
 case fin=>
  rintro c st' ⟨neq,rfl,hB',hs',hq,he,ho⟩;rw[show max n nrem=nrem by omega] at hs' hq he ⊢;exact h nrem neq st' hB' hnn (Nat.le_refl _) hs' hq he ho
 case step=>
  rintro x c st' hax hxn ⟨neq,rfl,hB',hs',hq,he,ho⟩;dsimp only;have hsz:lo+x<=(arrOf st').size:=by rw[hB'.size];omega
  have he2:∀k,lo+x - (neq+1)<=k->k < lo+x->Kr rk (arrOf st') k=Kr rk (arrOf st') (lo+x - 1):=λk h1 h2=>by
   have:=he (k - lo) ⋯ ⋯;rw[show lo+(k - lo)=k by omega] at this;exact this
  refine wpS_bind (AL od hB' h0 ⋯ ⋯ ?_);by_cases hless:Kr rk (arrOf st') (lo+x) < Kr rk (arrOf st') (lo+x - 1)
  ·simp only[hless,decide_true,if_true];have step1:∀xs:Array Keyed,(∀k,Kr rk xs k=Kr rk (arrOf st') k)->kK rk xs lo (x+1):=by
    intro xs hk i j hij hj;rw[hk,hk];by_cases hjx:j < x
    ·exact hs' i j hij hjx
    ·have hj':j=x:=⋯;subst hj';by_cases hi':i=j
     ·subst hi';exact Int.le_refl _
     ·have:=hs' i (j - 1) ⋯ ⋯;rw[show lo+(j - 1)=lo+j - 1 by omega] at this;exact Int.le_trans (Int.le_of_lt hless) this
   by_cases hneq:neq > 0
   ·rw[if_pos hneq];refine wpS_bind (cN (wpS_pure ⟨0,rfl,hB'.set (mirror_perm _ _ _ _),step1 _ (BL hsz he2),⋯,λi h1 h2=>by congr 1;omega,ho.trans (bN hsz ⋯ ⋯)⟩))
   ·rw[if_neg hneq];exact wpS_pure ⟨0,rfl,hB',step1 _ (λ_=>rfl),⋯,λi h1 h2=>by congr 1;omega,ho⟩
  ·simp only[hless,decide_false,Bool.false_eq_true,if_false];refine wpS_bind (AL od hB' h0 ⋯ ⋯ ?_);by_cases hlarger:Kr rk (arrOf st') (lo+x - 1) < Kr rk (arrOf st') (lo+x)
   ·simp only[hlarger,decide_true,if_true];exact wpS_pure (h x neq st' hB' hax ⋯ hs' hq he ho)
   ·simp only[hlarger,decide_false,Bool.false_eq_true,if_false];have heqx:Kr rk (arrOf st') (lo+x)=Kr rk (arrOf st') (lo+x - 1):=⋯;refine wpS_pure ⟨neq+1,rfl,hB',λi j hij hj=>?_,⋯,λi h1 h2=>?_,ho⟩
    ·by_cases hjx:j < x
     ·exact hs' i j hij hjx
     ·have hj':j=x:=⋯;subst hj';by_cases hi':i=j
      ·subst hi';exact Int.le_refl _
      ·have:=hs' i (j - 1) ⋯ ⋯;rw[show lo+(j - 1)=lo+j - 1 by omega] at this;rw[heqx];exact this
    ·rw[show lo+(x+1) - 1=lo+x by omega];by_cases hix:i=x
     ·subst hix;rfl
     ·rw[heqx];exact he i ⋯ ⋯
theorem zV {st:SortSt} {lo n nrem:Nat} {Q:Option Nat->SortSt->Prop} (od:Od kd Ok rk M A E s) (h0:KB Ok a₀) (hn:lo+nrem<=a₀.size) (hnn:n+1<=nrem) (hB:Sb a₀ kd pd st)
  (hs:kK rk (arrOf st) lo (n+1)) (h:∀m st',Sb a₀ kd pd st'->1<=m->m<=nrem->BC rk (arrOf st') lo m->IC (arrOf st) (arrOf st') lo nrem->Q (some m) st'):
  wpS M A E s (MC lo n nrem) Q st:=by
 unfold MC;refine wpS_bind (wpS_lift (wpAny_rule ⟨rfl,?_⟩));refine wpS_bind (bJ od h0 hn ⋯ hnn hB hs λm neq st' hB' hm1 hm2 hs' hq he ho=>?_);dsimp only;have hsz:lo+m<=(arrOf st').size:=by rw[hB'.size];omega
 have he2:∀k,lo+m - (neq+1)<=k->k < lo+m->Kr rk (arrOf st') k=Kr rk (arrOf st') (lo+m - 1):=λk h1 h2=>by
  have:=he (k - lo) ⋯ ⋯;rw[show lo+(k - lo)=k by omega] at this;exact this
 by_cases hneq:neq > 0
 ·rw[if_pos hneq];refine wpS_bind (cN (yV od h0 hn ⋯ hm2 (hB'.set (mirror_perm _ _ _ _)) ?_ λm' st2 b1 b2 b3 b4 b5=>h m' st2 b1 b2 b3 b4 ((ho.trans (bN hsz ⋯ ⋯)).trans b5)));intro i j hij hj;show Kr rk (mirror (arrOf st') _ _ _) (lo+j)<=Kr rk (mirror (arrOf st') _ _ _) (lo+i);rw[BL hsz he2,BL hsz he2];exact hs' i j hij hj
 ·rw[if_neg hneq];exact yV od h0 hn ⋯ hm2 hB' hs' λm' st2 b1 b2 b3 b4 b5=>h m' st2 b1 b2 b3 b4 (ho.trans b5)
theorem VY {st:SortSt} {lo nrem:Nat} {Q:Option Nat->SortSt->Prop} (od:Od kd Ok rk M A E s) (h0:KB Ok a₀) (hn:lo+nrem<=a₀.size) (h1:1<=nrem) (hB:Sb a₀ kd pd st)
  (h:∀m st',Sb a₀ kd pd st'->1<=m->m<=nrem->BC rk (arrOf st') lo m->IC (arrOf st) (arrOf st') lo nrem->Q (some m) st'):
  wpS M A E s (countRun' lo nrem) Q st:=by
 rw[UY];refine wpS_bind (vH od h0 hn (Nat.le_refl 1) h1 hB (λi j hij hj=>by
  have:i=j:=⋯;subst this;exact Int.le_refl _) λn hn1 hn2 hsn hor=>?_)
 dsimp only;by_cases hnn:n=nrem
 ·rw[if_pos (by simpa using hnn)];exact wpS_pure (h n st hB hn1 hn2 hsn IC.rfl')
 ·rw[if_neg (by simpa using hnn)];have hlt:=hor.resolve_left hnn;by_cases hgt:n > 1
  ·rw[if_pos hgt];refine wpS_bind (AL od hB h0 ⋯ ⋯ ?_);by_cases hrose:Kr rk (arrOf st) lo < Kr rk (arrOf st) (lo+n - 1)
   ·simp only[hrose,decide_true,if_true];exact wpS_pure (h n st hB hn1 hn2 hsn IC.rfl')
   ·simp only[hrose,decide_false,Bool.false_eq_true,if_false];have hsz:lo+n<=(arrOf st).size:=by rw[hB.size];omega
    have hall:∀k,lo<=k->k < lo+n->Kr rk (arrOf st) k=Kr rk (arrOf st) (lo+n - 1):=by
     intro k h1 hk;have a1:=hsn 0 (k - lo) ⋯ ⋯;have a2:=hsn (k - lo) (n - 1) ⋯ ⋯;rw[show lo+(k - lo)=k by omega] at a1 a2;rw[show lo+(n - 1)=lo+n - 1 by omega] at a2;rw[Nat.add_zero] at a1;omega
    refine wpS_bind (cN (zV od h0 hn ⋯ (hB.set (mirror_perm _ _ _ _)) ?_ λm' st2 b1 b2 b3 b4 b5=>h m' st2 b1 b2 b3 b4 ((bN hsz (Nat.le_refl _) ⋯).trans b5)));intro i j hij hj;show Kr rk (mirror (arrOf st) _ _ _) (lo+j)<=Kr rk (mirror (arrOf st) _ _ _) (lo+i);rw[BL hsz hall,BL hsz hall];by_cases hjn:j < n
    ·rw[hall (lo+i) ⋯ ⋯,hall (lo+j) ⋯ ⋯];exact Int.le_refl _
    ·have hj':j=n:=⋯;subst hj';by_cases hi':i=j
     ·subst hi';exact Int.le_refl _
     ·rw[hall (lo+i) ⋯ ⋯];exact Int.le_of_lt hlt
  ·rw[if_neg hgt];have hn1':n=1:=⋯;subst hn1';refine zV od h0 hn ⋯ hB ?_ h;intro i j hij hj;by_cases hi':i=j
   ·subst hi';exact Int.le_refl _
   ·have hi0:i=0:=⋯;have hj1:j=1:=⋯;subst hi0;subst hj1;exact Int.le_of_lt hlt
end
noncomputable def LB:Bool->Keyed->Array Keyed->Nat->Nat->Nat->StateT SortSt Sem (Option Nat):=sortPriv% PySem.Builtin.gallop
noncomputable def HE (left:Bool) (key:Keyed) (arr:Array Keyed) (base i:Nat):StateT SortSt Sem (Option Bool):=do
 let x<-elem' arr (base+i)
 if left then lt' x key else return (<-lt' key x).map (!·)
theorem WY (left:Bool) (key:Keyed) (arr:Array Keyed) (base n hint:Nat):LB left key arr base n hint=(do
 let mut lastofs:=0
 let mut ofs:=1
 let mut lo:=0
 let mut hi:=0
 let some right<-HE left key arr base hint|return none
 if right then
  let maxofs:=n - hint
  for _ in [0:n] do
   if ofs>=maxofs then break
   let some more<-HE left key arr base (hint+ofs)|return none
   if !more then break
   lastofs:=ofs
   ofs:=2 * ofs+1
  lo:=hint+lastofs+1
  hi:=hint+min ofs maxofs
 else
  let maxofs:=hint+1
  for _ in [0:n] do
   if ofs>=maxofs then break
   let some found<-HE left key arr base (hint - ofs)|return none
   if found then break
   lastofs:=ofs
   ofs:=2 * ofs+1
  lo:=hint+1 - min ofs maxofs
  hi:=hint - lastofs
 for _ in [0:n] do
  if lo>=hi then break
  let m:=lo+(hi - lo) / 2
  let some more<-HE left key arr base m|return none
  if more then lo:=m+1 else hi:=m
 return some hi):=rfl
noncomputable def bB (rk:Keyed->Int) (left:Bool) (key:Keyed) (arr:Array Keyed) (base i:Nat):Bool:=if left=true then decide (Kr rk arr (base+i) < rk key) else !decide (rk key < Kr rk arr (base+i))
section
variable {M:Model} {A:Around} {E:Value->Shared->Prop} {s:Shared} {a₀:Array Keyed} {kd:SortKind} {pd:Array (Nat×Nat×Nat)} {Ok:Keyed->Prop} {rk:Keyed->Int}
theorem cJ {left:Bool} {key:Keyed} {arr:Array Keyed} {base i:Nat} {st:SortSt} {p:Keyed} {Q:Option Bool->SortSt->Prop} (od:Od kd Ok rk M A E s) (hk:kindOf st=kd) (ok:Ok key) (hp:arr[base+i]?=some p) (op:Ok p)
  (q:Q (some (bB rk left key arr base i)) st):wpS M A E s (HE left key arr base i) Q st:=by
 unfold HE;refine wpS_bind (dD hp ?_);unfold bB at q;rw[YC hp] at q;cases left with
 |true=>
  rw[if_pos rfl] at q ⊢;exact od st p key Q hk op ok q
 |false=>
  rw[if_neg Bool.false_ne_true] at q ⊢;exact wpS_bind (od st key p _ hk ok op (wpS_pure q))
theorem XY {left:Bool} {key:Keyed} {arr:Array Keyed} {base n i j:Nat} (hs:BC rk arr base n) (hij:i<=j) (hj:j < n) (h:bB rk left key arr base j=true):bB rk left key arr base i=true:=by
 have:=hs i j hij hj;unfold bB at h ⊢;cases left with
 |true=>
  rw[if_pos rfl] at h ⊢;have h:=of_decide_eq_true h;exact decide_eq_true ⋯
 |false=>
  rw[if_neg Bool.false_ne_true] at h ⊢;have h:decide (rk key < Kr rk arr (base+j))=false:=by simpa using h
  have h:=of_decide_eq_false h;rw[decide_eq_false ⋯]
  rfl
theorem lK {left:Bool} {key:Keyed} {arr:Array Keyed} {base n hint:Nat} {st:SortSt} {Q:Option Nat->SortSt->Prop} (od:Od kd Ok rk M A E s) (hk:kindOf st=kd) (ok:Ok key) (hok:∀i,i < n->∃p,arr[base+i]?=some p/\Ok p) (hs:BC rk arr base n) (hh:hint < n)
  (q:∀k,k<=n->(∀i,i < k->bB rk left key arr base i=true)->(∀i,k<=i->i < n->bB rk left key arr base i=false)->Q (some k) st):wpS M A E s (LB left key arr base n hint) Q st:=by
 have by_:∀(i:Nat) (R:Option Bool->SortSt->Prop),i < n->R (some (bB rk left key arr base i)) st->wpS M A E s (HE left key arr base i) R st:=λi R hi r=>by
  obtain⟨p,hp,op⟩:=hok i hi;exact cJ od hk ok hp op r
 have mono:∀i j,i<=j->j < n->bB rk left key arr base j=true->bB rk left key arr base i=true:=λi j h1 h2 h3=>XY hs h1 h2 h3;have nmono:∀i j,i<=j->j < n->bB rk left key arr base i=false->bB rk left key arr base j=false:=λi j h1 h2 h3=>by
  cases e:bB rk left key arr base j with
  |false=>rfl
  |true=>rw[mono i j h1 h2 e] at h3;cases h3
 generalize hB:bB rk left key arr base=B at *;rw[WY];refine wpS_bind (by_ hint _ hh ?_);cases e:B hint with
 |true=>
  simp only[if_true];refine wpS_bind (wpS_mono (wpS_forRange (I:=λx c st'=>st'=st/\∃l o,c=(none,l,o)/\l < o/\hint+l < n/\B (hint+l)=true/\x+1<=o)
   (Q:=λc st'=>st'=st/\∃l o,c=(none,l,o)/\l < o/\hint+l < n/\B (hint+l)=true/\(n - hint<=o\/(hint+o < n/\B (hint+o)=false))) ?step ?fin ?init) ?post)
  case init=>exact⟨rfl,0,1,rfl,⋯,⋯,e,⋯⟩
  case fin=>
   rintro c st' ⟨rfl,l,o,rfl,a1,a2,a3,a4⟩;exact⟨rfl,l,o,rfl,a1,a2,a3,.inl ⋯⟩
  case step=>
   rintro x c st' _ hx ⟨rfl,l,o,rfl,a1,a2,a3,a4⟩;dsimp only;by_cases c:o>=n - hint
   ·rw[if_pos c];exact wpS_pure ⟨rfl,l,o,rfl,a1,a2,a3,.inl c⟩
   ·rw[if_neg c];refine wpS_bind (by_ _ _ ⋯ ?_);cases e2:B (hint+o) with
    |true=>
     simp only[Bool.not_true,Bool.false_eq_true,if_false];exact wpS_pure ⟨rfl,o,2 * o+1,rfl,⋯,⋯,e2,⋯⟩
    |false=>
     simp only[Bool.not_false,if_true];exact wpS_pure ⟨rfl,l,o,rfl,a1,a2,a3,.inr ⟨⋯,e2⟩⟩
  case post=>
   rintro c st2 ⟨e9,l,o,rfl,a1,a2,a3,a4⟩;rw[e9];dsimp only;have h1:hint+l+1<=hint+min o (n - hint):=⋯;have h2:hint+min o (n - hint)<=n:=⋯;have h3:∀i,i < hint+l+1->B i=true:=λi hi=>mono i _ ⋯ a2 a3;have h4:∀i,hint+min o (n - hint)<=i->i < n->B i=false:=λi h1 h2=>by
    rcases a4 with a4|⟨a4,a5⟩
    ·omega
    ·exact nmono (hint+o) i ⋯ h2 a5
   generalize hint+l+1=lo at *;generalize hint+min o (n - hint)=hi at *;refine wpS_bind (wpS_mono (wpS_forRange (I:=λx c st'=>st'=st/\∃lo hi,c=(none,lo,hi)/\lo<=hi/\hi<=n/\hi - lo<=n - x/\(∀i,i < lo->B i=true)/\(∀i,hi<=i->i < n->B i=false))
    (Q:=λc st'=>st'=st/\∃hi,c=(none,hi,hi)/\hi<=n/\(∀i,i < hi->B i=true)/\(∀i,hi<=i->i < n->B i=false)) ?step ?fin ?init) ?post)
   case init=>exact⟨rfl,lo,hi,rfl,h1,h2,⋯,h3,h4⟩
   case fin=>
    rintro c st' ⟨rfl,lo,hi,rfl,a1,a2,a3,a4,a5⟩;have:lo=hi:=⋯;subst this;exact⟨rfl,lo,rfl,a2,a4,a5⟩
   case post=>
    rintro c st' ⟨rfl,hi,rfl,a2,a4,a5⟩;exact wpS_pure (q hi a2 a4 a5)
   case step=>
    rintro x c st' _ hx ⟨rfl,lo,hi,rfl,a1,a2,a3,a4,a5⟩;dsimp only;by_cases c:lo>=hi
    ·rw[if_pos c];have:lo=hi:=⋯;subst this;exact wpS_pure ⟨rfl,lo,rfl,a2,a4,a5⟩
    ·rw[if_neg c];refine wpS_bind (by_ _ _ ⋯ ?_);cases e:B (lo+(hi - lo) / 2) with
     |true=>
      simp only[if_true];exact wpS_pure ⟨rfl,_,hi,rfl,⋯,a2,⋯,λi hi'=>mono i _ ⋯ ⋯ e,a5⟩
     |false=>
      simp only[Bool.false_eq_true,if_false];exact wpS_pure ⟨rfl,lo,_,rfl,⋯,⋯,⋯,a4,λi h1 h2=>nmono _ i h1 h2 e⟩
 |false=>
  simp only[Bool.false_eq_true,if_false];refine wpS_bind (wpS_mono (wpS_forRange (I:=λx c st'=>st'=st/\∃l o,c=(none,l,o)/\l < o/\l<=hint/\B (hint - l)=false/\x+1<=o)
   (Q:=λc st'=>st'=st/\∃l o,c=(none,l,o)/\l < o/\l<=hint/\B (hint - l)=false/\(hint+1<=o\/(o<=hint/\B (hint - o)=true))) ?step ?fin ?init) ?post)
  case init=>exact⟨rfl,0,1,rfl,⋯,⋯,e,⋯⟩
  case fin=>
   rintro c st' ⟨rfl,l,o,rfl,a1,a2,a3,a4⟩;exact⟨rfl,l,o,rfl,a1,a2,a3,.inl ⋯⟩
  case step=>
   rintro x c st' _ hx ⟨rfl,l,o,rfl,a1,a2,a3,a4⟩;dsimp only;by_cases c:o>=hint+1
   ·rw[if_pos c];exact wpS_pure ⟨rfl,l,o,rfl,a1,a2,a3,.inl c⟩
   ·rw[if_neg c];refine wpS_bind (by_ _ _ ⋯ ?_);cases e2:B (hint - o) with
    |true=>
     simp only[if_true];exact wpS_pure ⟨rfl,l,o,rfl,a1,a2,a3,.inr ⟨⋯,e2⟩⟩
    |false=>
     simp only[Bool.false_eq_true,if_false];exact wpS_pure ⟨rfl,o,2 * o+1,rfl,⋯,⋯,e2,⋯⟩
  case post=>
   rintro c st2 ⟨e9,l,o,rfl,a1,a2,a3,a4⟩;rw[e9];dsimp only;have h1:hint+1 - min o (hint+1)<=hint - l:=⋯;have h2:hint - l<=n:=⋯;have h3:∀i,i < hint+1 - min o (hint+1)->B i=true:=λi hi=>by
    rcases a4 with a4|⟨a4,a5⟩
    ·omega
    ·exact mono i (hint - o) ⋯ ⋯ a5
   have h4:∀i,hint - l<=i->i < n->B i=false:=λi h1 h2=>nmono (hint - l) i ⋯ h2 a3;generalize hint+1 - min o (hint+1)=lo at *;generalize hint - l=hi at *;refine wpS_bind (wpS_mono (wpS_forRange (I:=λx c st'=>st'=st/\∃lo hi,c=(none,lo,hi)/\lo<=hi/\hi<=n/\hi - lo<=n - x/\(∀i,i < lo->B i=true)/\(∀i,hi<=i->i < n->B i=false))
    (Q:=λc st'=>st'=st/\∃hi,c=(none,hi,hi)/\hi<=n/\(∀i,i < hi->B i=true)/\(∀i,hi<=i->i < n->B i=false)) ?step ?fin ?init) ?post)
   case init=>exact⟨rfl,lo,hi,rfl,h1,h2,⋯,h3,h4⟩
   case fin=>
    rintro c st' ⟨rfl,lo,hi,rfl,a1,a2,a3,a4,a5⟩;have:lo=hi:=⋯;subst this;exact⟨rfl,lo,rfl,a2,a4,a5⟩
   case post=>
    rintro c st' ⟨rfl,hi,rfl,a2,a4,a5⟩;exact wpS_pure (q hi a2 a4 a5)
   case step=>
    rintro x c st' _ hx ⟨rfl,lo,hi,rfl,a1,a2,a3,a4,a5⟩;dsimp only;by_cases c:lo>=hi
    ·rw[if_pos c];have:lo=hi:=⋯;subst this;exact wpS_pure ⟨rfl,lo,rfl,a2,a4,a5⟩
    ·rw[if_neg c];refine wpS_bind (by_ _ _ ⋯ ?_);cases e:B (lo+(hi - lo) / 2) with
     |true=>
      simp only[if_true];exact wpS_pure ⟨rfl,_,hi,rfl,⋯,a2,⋯,λi hi'=>mono i _ ⋯ ⋯ e,a5⟩
     |false=>
      simp only[Bool.false_eq_true,if_false];exact wpS_pure ⟨rfl,lo,_,rfl,⋯,⋯,⋯,a4,λi h1 h2=>nmono _ i h1 h2 e⟩
end
noncomputable def eD:Array Keyed->Array Keyed->StateT SortSt Sem (Array Keyed):=sortPriv% PySem.Builtin.mergeLo
noncomputable def YF (g:Nat):StateT SortSt Sem Unit:=modify λs=>SortSt.mk' (kindOf s) (arrOf s) (pendingOf s) g (failedOf s)
noncomputable abbrev T6:=Option (Array Keyed)×Array Keyed×Nat×Nat×Nat×Nat
noncomputable abbrev T7:=Option (Array Keyed)×Array Keyed×Nat×Nat×Nat×Nat×Nat
noncomputable abbrev T5:=Option (Array Keyed)×Array Keyed×Nat×Nat×Nat
noncomputable def dN (a b:Array Keyed) (out:Array Keyed) (ia ib g k k1:Nat):StateT SortSt Sem (ForInStep T7):=do
 let x<-elem' a ia
 if (ia+1+1 == a.size)=true then pure (ForInStep.done (some (out.push x++b.extract ib b.size++a.extract (ia+1) a.size),out.push x,ia+1,ib,g,k,k1))
 else if (decide (k < 7)&&decide (k1 < 7))=true then pure (ForInStep.done (none,out.push x,ia+1,ib,g,k,k1))
 else pure (ForInStep.yield (none,out.push x,ia+1,ib,g,k,k1))
noncomputable def eN (a b:Array Keyed) (out:Array Keyed) (ia ib g k bc:Nat):StateT SortSt Sem (ForInStep T7):=do
 let y<-elem' b ib
 if (ib+1 == b.size)=true then pure (ForInStep.done (some (out.push y++a.extract ia a.size++b.extract (ib+1) b.size),out.push y,ia,ib+1,g,k,bc))
 else do
  let x<-elem' a ia
  let r<-LB true x b (ib+1) (b.size - (ib+1)) 0
  match r with
  |some k1=>
   if k1 > 0 then
    if (ib+1+k1 == b.size)=true then pure (ForInStep.done (some (out.push y++b.extract (ib+1) (ib+1+k1)++a.extract ia a.size++b.extract (ib+1+k1) b.size),out.push y++b.extract (ib+1) (ib+1+k1),ia,ib+1+k1,g,k,k1))
    else dN a b (out.push y++b.extract (ib+1) (ib+1+k1)) ia (ib+1+k1) g k k1
   else dN a b (out.push y) ia (ib+1) g k k1
  |_=>pure (ForInStep.done (some (out.push y++a.extract ia a.size++b.extract (ib+1) b.size),out.push y,ia,ib+1,g,k,bc))
noncomputable def CL (a b:Array Keyed) (out:Array Keyed) (ia ib g ac bc:Nat):StateT SortSt Sem (ForInStep T7):=do
 YF g
 let y<-elem' b ib
 let r<-LB false y a ia (a.size - ia) 0
 match r with
 |some k=>
  if k > 0 then
   if (ia+k+1 == a.size)=true then pure (ForInStep.done (some (out++a.extract ia (ia+k)++b.extract ib b.size++a.extract (ia+k) a.size),out++a.extract ia (ia+k),ia+k,ib,g,k,bc))
   else if (ia+k == a.size)=true then pure (ForInStep.done (some (out++a.extract ia (ia+k)++a.extract (ia+k) a.size++b.extract ib b.size),out++a.extract ia (ia+k),ia+k,ib,g,k,bc))
   else eN a b (out++a.extract ia (ia+k)) (ia+k) ib g k bc
  else eN a b out ia ib g k bc
 |_=>pure (ForInStep.done (some (out++a.extract ia a.size++b.extract ib b.size),out,ia,ib,g,ac,bc))
noncomputable def bP (a b:Array Keyed) (mg:Nat) (s:T6):StateT SortSt Sem (ForInStep T6):=do
 let y<-elem' b s.snd.snd.snd.fst
 let x<-elem' a s.snd.snd.fst
 let r<-lt' y x
 match r with
 |some bw=>
  if bw=true then do
   let y<-elem' b s.snd.snd.snd.fst
   if (s.snd.snd.snd.fst+1 == b.size)=true then pure (ForInStep.done (some (s.snd.fst.push y++a.extract s.snd.snd.fst a.size++b.extract (s.snd.snd.snd.fst+1) b.size),s.snd.fst.push y,s.snd.snd.fst,s.snd.snd.snd.fst+1,0,s.snd.snd.snd.snd.snd+1))
   else if s.snd.snd.snd.snd.snd+1>=mg then pure (ForInStep.done (none,s.snd.fst.push y,s.snd.snd.fst,s.snd.snd.snd.fst+1,0,s.snd.snd.snd.snd.snd+1))
   else pure (ForInStep.yield (none,s.snd.fst.push y,s.snd.snd.fst,s.snd.snd.snd.fst+1,0,s.snd.snd.snd.snd.snd+1))
  else do
   let x<-elem' a s.snd.snd.fst
   if (s.snd.snd.fst+1+1 == a.size)=true then pure (ForInStep.done (some (s.snd.fst.push x++b.extract s.snd.snd.snd.fst b.size++a.extract (s.snd.snd.fst+1) a.size),s.snd.fst.push x,s.snd.snd.fst+1,s.snd.snd.snd.fst,s.snd.snd.snd.snd.fst+1,0))
   else if s.snd.snd.snd.snd.fst+1>=mg then pure (ForInStep.done (none,s.snd.fst.push x,s.snd.snd.fst+1,s.snd.snd.snd.fst,s.snd.snd.snd.snd.fst+1,0))
   else pure (ForInStep.yield (none,s.snd.fst.push x,s.snd.snd.fst+1,s.snd.snd.snd.fst,s.snd.snd.snd.snd.fst+1,0))
 |_=>pure (ForInStep.done (some (s.snd.fst++a.extract s.snd.snd.fst a.size++b.extract s.snd.snd.snd.fst b.size),s.snd.fst,s.snd.snd.fst,s.snd.snd.snd.fst,s.snd.snd.snd.snd.fst,s.snd.snd.snd.snd.snd))
noncomputable def AV (a b:Array Keyed) (s:T7):StateT SortSt Sem (ForInStep T7):=
 if s.snd.snd.snd.snd.fst > 1 then CL a b s.snd.fst s.snd.snd.fst s.snd.snd.snd.fst (s.snd.snd.snd.snd.fst - 1) s.snd.snd.snd.snd.snd.fst s.snd.snd.snd.snd.snd.snd
 else CL a b s.snd.fst s.snd.snd.fst s.snd.snd.snd.fst s.snd.snd.snd.snd.fst s.snd.snd.snd.snd.snd.fst s.snd.snd.snd.snd.snd.snd
noncomputable def BV (a b:Array Keyed) (s:T5):StateT SortSt Sem (ForInStep T5):=do
 let t<-forIn [0:a.size+b.size] ((none,s.snd.fst,s.snd.snd.fst,s.snd.snd.snd.fst,0,0):T6) λ_ t=>bP a b s.snd.snd.snd.snd t
 match t.fst with
 |some r=>pure (ForInStep.done (some r,t.snd.fst,t.snd.snd.fst,t.snd.snd.snd.fst,s.snd.snd.snd.snd))
 |none=>do
  liftM (rule "list.sort.gallop")
  let u<-forIn [0:a.size+b.size] ((none,t.snd.fst,t.snd.snd.fst,t.snd.snd.snd.fst,s.snd.snd.snd.snd+1,t.snd.snd.snd.snd.fst,t.snd.snd.snd.snd.snd):T7) λ_ u=>AV a b u
  match u.fst with
  |some r=>pure (ForInStep.done (some r,u.snd.fst,u.snd.snd.fst,u.snd.snd.snd.fst,u.snd.snd.snd.snd.fst))
  |none=>do
   YF (u.snd.snd.snd.snd.fst+1)
   pure (ForInStep.yield (none,u.snd.fst,u.snd.snd.fst,u.snd.snd.snd.fst,u.snd.snd.snd.snd.fst+1))
theorem YY (a b:Array Keyed):eD a b=(do
 rule "list.sort.merge-lo"
 let y<-elem' b 0
 if (1 == b.size)=true then pure (#[y]++a.extract 0 a.size++b.extract 1 b.size)
 else if (0+1 == a.size)=true then pure (#[y]++b.extract 1 b.size++a.extract 0 a.size)
 else do
  let st<-get
  let t<-forIn [0:a.size+b.size] ((none, #[y],0,1,gallopOf st):T5) λ_ t=>BV a b t
  match t.fst with
  |some r=>pure r
  |none=>unsupported "internal:list.sort.merge-bound"):=by kernel_rfl
noncomputable abbrev Up (rk:Keyed->Int) (l:List Keyed):Prop:=l.Pairwise λx y=>rk x<=rk y
structure MI (rk:Keyed->Int) (la lb ol:List Keyed) (ia ib:Nat):Prop where
 pm:(ol++la.drop ia++lb.drop ib).Perm (la++lb)
 so:Up rk ol
 oa:∀x∈ol,∀y∈la.drop ia,rk x<=rk y
 ob:∀x∈ol,∀y∈lb.drop ib,rk x<=rk y
theorem DL {α:Type} {l:List α} {i:Nat} {x:α} (h:l[i]?=some x):l.drop i=x::l.drop (i+1):=by
 obtain⟨h1,h2⟩:=List.getElem?_eq_some_iff.mp h;rw[<-h2];exact List.drop_eq_getElem_cons h1
theorem GG {rk:Keyed->Int} {l:List Keyed} {i:Nat} {x:Keyed} (hu:Up rk l) (h:l[i]?=some x):∀y∈l.drop i,rk x<=rk y:=λy hy=>by
 have hu2:Up rk (l.drop i):=hu.sublist (List.drop_sublist i l);rw[DL h] at hu2 hy;rcases List.mem_cons.mp hy with rfl|hy
 ·exact Int.le_refl _
 ·exact (List.pairwise_cons.mp hu2).1 y hy
section
variable {rk:Keyed->Int} {la lb ol:List Keyed} {ia ib:Nat} {x y:Keyed}
theorem MI.pushA (h:MI rk la lb ol ia ib) (ha:Up rk la) (hb:Up rk lb) (hx:la[ia]?=some x) (hy:∀y∈lb.drop ib,rk x<=rk y):MI rk la lb (ol++[x]) (ia+1) ib:=by
 have hd:=DL hx;have hxa:=GG ha hx;refine⟨?_,?_,?_,?_⟩
 ·have:=h.pm;rw[hd] at this;simpa[List.append_assoc] using this
 ·refine List.pairwise_append.mpr ⟨h.so,List.pairwise_singleton .., λz hz w hw=>?_⟩;rw[List.mem_singleton.mp hw];exact h.oa z hz x (by rw[hd];exact List.mem_cons_self ..)
 ·intro z hz w hw;rcases List.mem_append.mp hz with hz|hz
  ·exact h.oa z hz w (by rw[hd];exact List.mem_cons_of_mem _ hw)
  ·rw[List.mem_singleton.mp hz];exact hxa w (by rw[hd];exact List.mem_cons_of_mem _ hw)
 ·intro z hz w hw;rcases List.mem_append.mp hz with hz|hz
  ·exact h.ob z hz w hw
  ·rw[List.mem_singleton.mp hz];exact hy w hw
theorem MI.pushB (h:MI rk la lb ol ia ib) (ha:Up rk la) (hb:Up rk lb) (hy:lb[ib]?=some y) (hx:∀x∈la.drop ia,rk y<=rk x):MI rk la lb (ol++[y]) ia (ib+1):=by
 have hd:=DL hy;have hyb:=GG hb hy;refine⟨?_,?_,?_,?_⟩
 ·have:=h.pm;rw[hd] at this;refine List.Perm.trans ?_ this;rw[List.append_assoc,List.append_assoc,List.append_assoc];refine List.Perm.append_left _ ?_;exact (List.perm_middle (a:=y) (l₁:=la.drop ia) (l₂:=lb.drop (ib+1))).symm
 ·refine List.pairwise_append.mpr ⟨h.so,List.pairwise_singleton .., λz hz w hw=>?_⟩;rw[List.mem_singleton.mp hw];exact h.ob z hz y (by rw[hd];exact List.mem_cons_self ..)
 ·intro z hz w hw;rcases List.mem_append.mp hz with hz|hz
  ·exact h.oa z hz w hw
  ·rw[List.mem_singleton.mp hz];exact hx w hw
 ·intro z hz w hw;rcases List.mem_append.mp hz with hz|hz
  ·exact h.ob z hz w (by rw[hd];exact List.mem_cons_of_mem _ hw)
  ·rw[List.mem_singleton.mp hz];exact hyb w (by rw[hd];exact List.mem_cons_of_mem _ hw)
theorem fN {l:List Keyed} {i k:Nat} {x:Keyed} (h:l[i+k]?=some x):(l.drop i).take (k+1)=(l.drop i).take k++[x]:=by
 rw[List.take_add_one,List.getElem?_drop,h];rfl
theorem MI.blkA (ha:Up rk la) (hb:Up rk lb) (h:MI rk la lb ol ia ib):∀k,ia+k<=la.length->(∀i,i < k->∀x,la[ia+i]?=some x->∀y∈lb.drop ib,rk x<=rk y)->MI rk la lb (ol++(la.drop ia).take k) (ia+k) ib
 |0,_,_=>by rw[List.take_zero,List.append_nil];exact h
 |k+1,hk,hy=>by
  have ih:=MI.blkA ha hb h k ⋯ λi hi=>hy i ⋯;obtain⟨x,hx⟩:∃x,la[ia+k]?=some x:=⟨_,List.getElem?_eq_getElem ⋯⟩
  rw[fN hx,<-List.append_assoc];exact ih.pushA ha hb hx (hy k ⋯ x hx)
theorem MI.blkB (ha:Up rk la) (hb:Up rk lb) (h:MI rk la lb ol ia ib):∀k,ib+k<=lb.length->(∀i,i < k->∀y,lb[ib+i]?=some y->∀x∈la.drop ia,rk y<=rk x)->MI rk la lb (ol++(lb.drop ib).take k) ia (ib+k)
 |0,_,_=>by rw[List.take_zero,List.append_nil];exact h
 |k+1,hk,hx=>by
  have ih:=MI.blkB ha hb h k ⋯ λi hi=>hx i ⋯;obtain⟨y,hy⟩:∃y,lb[ib+k]?=some y:=⟨_,List.getElem?_eq_getElem ⋯⟩
  rw[fN hy,<-List.append_assoc];exact ih.pushB ha hb hy (hx k ⋯ y hy)
noncomputable def CC (rk:Keyed->Int) (la lb:List Keyed) (r:Array Keyed):Prop:=r.toList.Perm (la++lb)/\Up rk r.toList
theorem gN {a:Array Keyed} {i k:Nat}:(a.extract i (i+k)).toList=(a.toList.drop i).take k:=by
 rw[Array.toList_extract];show ((a.toList.drop i).take (i+k - i))=_;rw[show i+k - i=k by omega]
theorem iN {a:Array Keyed} {i:Nat}:(a.extract i a.size).toList=a.toList.drop i:=by
 rw[Array.toList_extract];show ((a.toList.drop i).take (a.size - i))=_;exact List.take_of_length_le (by rw[List.length_drop,Array.length_toList];exact Nat.le_refl _)
theorem MI.endB {a b out:Array Keyed} (h:MI rk a.toList b.toList out.toList ia ib) (ha:Up rk a.toList) (hb:Up rk b.toList) (hd:ib=b.size\/ia=a.size):CC rk a.toList b.toList (out++a.extract ia a.size++b.extract ib b.size):=by
 unfold CC;rw[Array.toList_append,Array.toList_append,iN,iN];refine⟨h.pm,?_⟩;have sa:Up rk (a.toList.drop ia):=ha.sublist (List.drop_sublist _ _);have sb:Up rk (b.toList.drop ib):=hb.sublist (List.drop_sublist _ _);rw[List.append_assoc];refine List.pairwise_append.mpr ⟨h.so,List.pairwise_append.mpr ⟨sa,sb,?_⟩,λx hx y hy=>?_⟩
 ·intro x hx y hy;rcases hd with rfl|rfl
  ·rw[List.drop_of_length_le (by rw[Array.length_toList];exact Nat.le_refl _)] at hy;cases hy
  ·rw[List.drop_of_length_le (by rw[Array.length_toList];exact Nat.le_refl _)] at hx;cases hx
 ·rcases List.mem_append.mp hy with hy|hy
  ·exact h.oa x hx y hy
  ·exact h.ob x hx y hy
theorem MI.endL {a b out:Array Keyed} (h:MI rk a.toList b.toList out.toList ia ib) (ha:Up rk a.toList) (hb:Up rk b.toList) (hl:∀x∈a.toList.drop ia,∀y∈b.toList,rk y<=rk x):CC rk a.toList b.toList (out++b.extract ib b.size++a.extract ia a.size):=by
 unfold CC;rw[Array.toList_append,Array.toList_append,iN,iN];have sa:Up rk (a.toList.drop ia):=ha.sublist (List.drop_sublist _ _);have sb:Up rk (b.toList.drop ib):=hb.sublist (List.drop_sublist _ _);constructor
 ·refine List.Perm.trans ?_ h.pm;rw[List.append_assoc,List.append_assoc];exact List.Perm.append_left _ List.perm_append_comm
 ·rw[List.append_assoc];refine List.pairwise_append.mpr ⟨h.so,List.pairwise_append.mpr ⟨sb,sa,λx hx y hy=>hl y hy x (List.mem_of_mem_drop hx)⟩,λx hx y hy=>?_⟩;rcases List.mem_append.mp hy with hy|hy
  ·exact h.ob x hx y hy
  ·exact h.oa x hx y hy
end
noncomputable def Sk (st st':SortSt):Prop:=arrOf st'=arrOf st/\kindOf st'=kindOf st/\failedOf st'=failedOf st/\pendingOf st'=pendingOf st
theorem Sk.refl (st:SortSt):Sk st st:=⟨rfl,rfl,rfl,rfl⟩
theorem Sk.trans {s1 s2 s3:SortSt} (h:Sk s1 s2) (g:Sk s2 s3):Sk s1 s3:=⟨g.1.trans h.1,g.2.1.trans h.2.1,g.2.2.1.trans h.2.2.1,g.2.2.2.trans h.2.2.2⟩
theorem jN {M:Model} {A:Around} {E:Value->Shared->Prop} {s:Shared} {g:Nat} {st:SortSt} {Q:Unit->SortSt->Prop} (h:∀st',Sk st st'->Q () st'):wpS M A E s (YF g) Q st:=wpS_modify (h _ ⟨rfl,rfl,rfl,rfl⟩)
theorem kN {rk:Keyed->Int} {a:Array Keyed} (h:Up rk a.toList) {i n:Nat} (hn:i+n<=a.size):BC rk a i n:=λj k hjk hk=>by
 have h1:i+j < a.toList.length:=by rw[Array.length_toList];omega
 have h2:i+k < a.toList.length:=by rw[Array.length_toList];omega
 have e1:Kr rk a (i+j)=rk a.toList[i+j]:=YC (by rw[<-Array.getElem?_toList];exact List.getElem?_eq_getElem h1);have e2:Kr rk a (i+k)=rk a.toList[i+k]:=YC (by rw[<-Array.getElem?_toList];exact List.getElem?_eq_getElem h2);rw[e1,e2];by_cases c:j=k
 ·subst c;exact Int.le_refl _
 ·exact List.pairwise_iff_getElem.mp h (i+j) (i+k) h1 h2 ⋯
section
variable {M:Model} {A:Around} {E:Value->Shared->Prop} {s:Shared} {kd:SortKind} {Ok:Keyed->Prop} {rk:Keyed->Int} {a b:Array Keyed}
structure Pr (rk:Keyed->Int) (Ok:Keyed->Prop) (a b:Array Keyed):Prop where
 ua:Up rk a.toList
 ub:Up rk b.toList
 oa:∀x∈a.toList,Ok x
 ob:∀x∈b.toList,Ok x
 lst:∀x,a[a.size - 1]?=some x->∀y∈b.toList,rk y < rk x
 fst:∀y,b[0]?=some y->∀x∈a.toList,rk y < rk x
 na:0 < a.size
 nb:0 < b.size
noncomputable def Gd (rk:Keyed->Int) (a b:Array Keyed) (p:Nat) (ret:Option (Array Keyed)) (out:Array Keyed) (ia ib:Nat):Prop:=match ret with
 |some r=>CC rk a.toList b.toList r
 |none=>MI rk a.toList b.toList out.toList ia ib/\ia+1 < a.size/\ib < b.size/\p<=ia+ib
noncomputable def lN (rk:Keyed->Int) (a b:Array Keyed) (p:Nat) (c:T7):Prop:=Gd rk a b p c.1 c.2.1 c.2.2.1 c.2.2.2.1
noncomputable def mK (rk:Keyed->Int) (a b:Array Keyed) (p:Nat) (st:SortSt) (r:ForInStep T7) (st':SortSt):Prop:=Sk st st'/\match r with
 |.done c=>lN rk a b p c
 |.yield c=>c.1=none/\lN rk a b p c
theorem at_ {a:Array Keyed} {i:Nat} (h:i < a.size):∃x,a[i]?=some x/\a.toList[i]?=some x/\x∈a.toList:=by
 refine⟨a[i],Array.getElem?_eq_getElem h,?_,by simp⟩;rw[Array.getElem?_toList];exact Array.getElem?_eq_getElem h
theorem nN (pr:Pr rk Ok a b) {ia:Nat} (h:ia+1=a.size):∀x∈a.toList.drop ia,∀y∈b.toList,rk y<=rk x:=λx hx y hy=>by
 obtain⟨z,h1,h2,_⟩:=at_ (a:=a) (i:=ia) ⋯;have hd2:a.toList.drop (ia+1)=[]:=List.drop_of_length_le (by rw[Array.length_toList];omega);rw[DL h2,hd2] at hx;rw[List.mem_singleton.mp hx];exact Int.le_of_lt (pr.lst z (by rw[show a.size - 1=ia by omega];exact h1) y hy)
theorem wH (pr:Pr rk Ok a b) {out:Array Keyed} {ia ib g k k1 p:Nat} {st:SortSt} (h:MI rk a.toList b.toList out.toList ia ib) (hia:ia+1 < a.size) (hib:ib < b.size) (hx:∀x,a[ia]?=some x->∀y∈b.toList.drop ib,rk x<=rk y) (hp:p<=ia+1+ib):
  wpS M A E s (dN a b out ia ib g k k1) (mK rk a b p st) st:=by
 unfold dN;obtain⟨x,e1,e2,_⟩:=at_ (a:=a) (i:=ia) ⋯;refine wpS_bind (dD e1 ?_);have h2:MI rk a.toList b.toList (out.push x).toList (ia+1) ib:=by
  rw[Array.toList_push];exact h.pushA pr.ua pr.ub e2 (hx x e1)
 by_cases c:ia+1+1=a.size
 ·rw[if_pos (by simpa using c)];exact wpS_pure ⟨Sk.refl _,h2.endL pr.ua pr.ub (nN pr c)⟩
 ·rw[if_neg (by simpa using c)];have hg:Gd rk a b p none (out.push x) (ia+1) ib:=⟨h2,⋯,hib,⋯⟩
  split
  ·exact wpS_pure ⟨Sk.refl _,hg⟩
  ·exact wpS_pure ⟨Sk.refl _,rfl,hg⟩
theorem xH (od:Od kd Ok rk M A E s) (pr:Pr rk Ok a b) {out:Array Keyed} {ia ib g k bc p:Nat} {st:SortSt} (hk:kindOf st=kd) (h:MI rk a.toList b.toList out.toList ia ib) (hia:ia+1 < a.size) (hib:ib < b.size) (hy:∀y,b[ib]?=some y->∀x∈a.toList.drop ia,rk y<=rk x) (hp:p<=ia+ib+1):
  wpS M A E s (eN a b out ia ib g k bc) (mK rk a b p st) st:=by
 unfold eN;obtain⟨y,f1,f2,f3⟩:=at_ (a:=b) (i:=ib) hib;obtain⟨x,e1,e2,e3⟩:=at_ (a:=a) (i:=ia) ⋯;refine wpS_bind (dD f1 ?_);have h2:MI rk a.toList b.toList (out.push y).toList ia (ib+1):=by
  rw[Array.toList_push];exact h.pushB pr.ua pr.ub f2 (hy y f1)
 by_cases c:ib+1=b.size
 ·rw[if_pos (by simpa using c)];exact wpS_pure ⟨Sk.refl _,h2.endB pr.ua pr.ub (.inl c)⟩
 ·rw[if_neg (by simpa using c)];refine wpS_bind (dD e1 ?_);refine wpS_bind (lK od hk (pr.oa x e3) (λi hi=>?_) (kN pr.ub ⋯) ⋯ λk1 hk1 hlt hge=>?_)
  ·obtain⟨z,z1,_,z3⟩:=at_ (a:=b) (i:=ib+1+i) ⋯;exact⟨z,z1,pr.ob z z3⟩
  dsimp only;have hxd:=GG pr.ua e2;have h3:MI rk a.toList b.toList ((out.push y).toList++(b.toList.drop (ib+1)).take k1) ia (ib+1+k1):=by
   refine MI.blkB pr.ua pr.ub h2 k1 (by rw[Array.length_toList];omega) λi hi z hz w hw=>?_;have:=hlt i hi;unfold bB at this;rw[if_pos rfl,YC (show b[ib+1+i]?=some z by rw[<-Array.getElem?_toList];exact hz)] at this;exact Int.le_trans (Int.le_of_lt (of_decide_eq_true this)) (hxd w hw)
  have hnx:ib+1+k1 < b.size->∀x',a[ia]?=some x'->∀w∈b.toList.drop (ib+1+k1),rk x'<=rk w:=λhlt2 x' hx' w hw=>by
   rw[e1] at hx';cases hx';obtain⟨z,z1,z2,_⟩:=at_ (a:=b) (i:=ib+1+k1) hlt2;have:=hge k1 (Nat.le_refl _) ⋯;unfold bB at this;rw[if_pos rfl,YC z1] at this;have h9:=of_decide_eq_false this;exact Int.le_trans (Int.not_lt.mp h9) (GG pr.ub z2 w hw)
  by_cases ck:k1 > 0
  ·rw[if_pos ck];have h4:MI rk a.toList b.toList (out.push y++b.extract (ib+1) (ib+1+k1)).toList ia (ib+1+k1):=by rw[Array.toList_append,gN];exact h3
   by_cases c2:ib+1+k1=b.size
   ·rw[if_pos (by simpa using c2)];exact wpS_pure ⟨Sk.refl _,h4.endB pr.ua pr.ub (.inl c2)⟩
   ·rw[if_neg (by simpa using c2)];exact wH pr h4 hia ⋯ (hnx ⋯) ⋯
  ·rw[if_neg ck];have:k1=0:=⋯;subst this;exact wH pr h2 hia ⋯ (hnx ⋯) ⋯
theorem EL (od:Od kd Ok rk M A E s) (pr:Pr rk Ok a b) {out:Array Keyed} {ia ib g ac bc p:Nat} {st:SortSt} (hk:kindOf st=kd) (h:MI rk a.toList b.toList out.toList ia ib) (hia:ia+1 < a.size) (hib:ib < b.size) (hp:p<=ia+ib+1):
  wpS M A E s (CL a b out ia ib g ac bc) (mK rk a b p st) st:=by
 unfold CL;refine wpS_bind (jN λst1 sk=>?_);have hk1:kindOf st1=kd:=by rw[sk.2.1];exact hk
 have up:∀r st',mK rk a b p st1 r st'->mK rk a b p st r st':=λr st' q=>⟨sk.trans q.1,q.2⟩
 refine wpS_mono ?_ up;obtain⟨y,f1,f2,f3⟩:=at_ (a:=b) (i:=ib) hib;refine wpS_bind (dD f1 ?_);refine wpS_bind (lK od hk1 (pr.ob y f3) (λi hi=>?_) (kN pr.ua ⋯) ⋯ λk hk2 hlt hge=>?_)
 ·obtain⟨z,z1,_,z3⟩:=at_ (a:=a) (i:=ia+i) ⋯;exact⟨z,z1,pr.oa z z3⟩
 dsimp only;have hyd:=GG pr.ub f2;have h3:MI rk a.toList b.toList (out.toList++(a.toList.drop ia).take k) (ia+k) ib:=by
  refine MI.blkA pr.ua pr.ub h k (by rw[Array.length_toList];omega) λi hi z hz w hw=>?_;have:=hlt i hi;unfold bB at this;rw[if_neg Bool.false_ne_true,YC (show a[ia+i]?=some z by rw[<-Array.getElem?_toList];exact hz)] at this;have this:decide (rk y < rk z)=false:=by simpa using this
  exact Int.le_trans (Int.not_lt.mp (of_decide_eq_false this)) (hyd w hw)
 have hnx:ia+k < a.size->∀y',b[ib]?=some y'->∀w∈a.toList.drop (ia+k),rk y'<=rk w:=λhlt2 y' hy' w hw=>by
  rw[f1] at hy';cases hy';obtain⟨z,z1,z2,_⟩:=at_ (a:=a) (i:=ia+k) hlt2;have:=hge k (Nat.le_refl _) ⋯;unfold bB at this;rw[if_neg Bool.false_ne_true,YC z1] at this;have this:decide (rk y < rk z)=true:=by simpa using this
  exact Int.le_trans (Int.le_of_lt (of_decide_eq_true this)) (GG pr.ua z2 w hw)
 by_cases ck:k > 0
 ·rw[if_pos ck];have h4:MI rk a.toList b.toList (out++a.extract ia (ia+k)).toList (ia+k) ib:=by rw[Array.toList_append,gN];exact h3
  by_cases c:ia+k+1=a.size
  ·rw[if_pos (by simpa using c)];exact wpS_pure ⟨Sk.refl _,h4.endL pr.ua pr.ub (nN pr c)⟩
  ·rw[if_neg (by simpa using c)];by_cases c2:ia+k=a.size
   ·rw[if_pos (by simpa using c2)];exact wpS_pure ⟨Sk.refl _,h4.endB pr.ua pr.ub (.inr c2)⟩
   ·rw[if_neg (by simpa using c2)];exact xH od pr hk1 h4 ⋯ hib (hnx ⋯) ⋯
 ·rw[if_neg ck];have:k=0:=⋯;subst this;exact xH od pr hk1 h hia hib (hnx ⋯) ⋯
theorem FL (od:Od kd Ok rk M A E s) (pr:Pr rk Ok a b) {out:Array Keyed} {ia ib mg ac bc p:Nat} {st:SortSt} (hk:kindOf st=kd) (h:MI rk a.toList b.toList out.toList ia ib) (hia:ia+1 < a.size) (hib:ib < b.size) (hp:p<=ia+ib+1):
  wpS M A E s (bP a b mg (none,out,ia,ib,ac,bc)) (λr st'=>st'=st/\match r with
   |.done c=>Gd rk a b p c.1 c.2.1 c.2.2.1 c.2.2.2.1
   |.yield c=>c.1=none/\Gd rk a b p c.1 c.2.1 c.2.2.1 c.2.2.2.1) st:=by
 unfold bP;dsimp only;obtain⟨y,f1,f2,f3⟩:=at_ (a:=b) (i:=ib) hib;obtain⟨x,e1,e2,e3⟩:=at_ (a:=a) (i:=ia) ⋯;refine wpS_bind (dD f1 (wpS_bind (dD e1 (wpS_bind (od st y x _ hk (pr.ob y f3) (pr.oa x e3) ?_)))));dsimp only;have hyd:=GG pr.ub f2;have hxd:=GG pr.ua e2;by_cases hlt:rk y < rk x
 ·rw[decide_eq_true hlt,if_pos rfl];refine wpS_bind (dD f1 ?_);have h2:MI rk a.toList b.toList (out.push y).toList ia (ib+1):=by
   rw[Array.toList_push];exact h.pushB pr.ua pr.ub f2 λw hw=>Int.le_trans (Int.le_of_lt hlt) (hxd w hw)
  by_cases c:ib+1=b.size
  ·rw[if_pos (by simpa using c)];exact wpS_pure ⟨rfl,h2.endB pr.ua pr.ub (.inl c)⟩
  ·rw[if_neg (by simpa using c)];have hg:Gd rk a b p none (out.push y) ia (ib+1):=⟨h2,hia,⋯,⋯⟩
   split
   ·exact wpS_pure ⟨rfl,hg⟩
   ·exact wpS_pure ⟨rfl,rfl,hg⟩
 ·rw[decide_eq_false hlt,if_neg Bool.false_ne_true];refine wpS_bind (dD e1 ?_);have h2:MI rk a.toList b.toList (out.push x).toList (ia+1) ib:=by
   rw[Array.toList_push];exact h.pushA pr.ua pr.ub e2 λw hw=>Int.le_trans (Int.not_lt.mp hlt) (hyd w hw)
  by_cases c:ia+1+1=a.size
  ·rw[if_pos (by simpa using c)];exact wpS_pure ⟨rfl,h2.endL pr.ua pr.ub (nN pr c)⟩
  ·rw[if_neg (by simpa using c)];have hg:Gd rk a b p none (out.push x) (ia+1) ib:=⟨h2,⋯,hib,⋯⟩
   split
   ·exact wpS_pure ⟨rfl,hg⟩
   ·exact wpS_pure ⟨rfl,rfl,hg⟩
theorem ZY (od:Od kd Ok rk M A E s) (pr:Pr rk Ok a b) {st:SortSt} {Q:Array Keyed->SortSt->Prop} (hk:kindOf st=kd) (q:∀r st',Sk st st'->CC rk a.toList b.toList r->Q r st'):wpS M A E s (eD a b) Q st:=by
 rw[YY];refine wpS_bind (wpS_lift (wpAny_rule ⟨rfl,?_⟩));obtain⟨y,f1,f2,f3⟩:=at_ (a:=b) (i:=0) pr.nb;refine wpS_bind (dD f1 ?_);have h1:MI rk a.toList b.toList (#[y]:Array Keyed).toList 0 1:=by
  refine⟨?_,List.pairwise_singleton .., λx hx w hw=>?_,λx hx w hw=>?_⟩
  ·have hd:=DL f2;rw[List.drop_zero] at hd;rw[List.drop_zero];show ([y]++a.toList++b.toList.drop 1).Perm (a.toList++b.toList)
   conv=>rhs;rw[hd]
   exact (List.perm_middle (a:=y) (l₁:=a.toList) (l₂:=b.toList.drop 1)).symm
  ·rw[List.mem_singleton.mp hx];exact Int.le_of_lt (pr.fst y f1 w (List.mem_of_mem_drop hw))
  ·rw[List.mem_singleton.mp hx];exact GG pr.ub f2 w (by rw[List.drop_zero];exact List.mem_of_mem_drop hw)
 by_cases c1:1=b.size
 ·rw[if_pos (by simpa using c1)];exact wpS_pure (q _ _ (Sk.refl _) (h1.endB pr.ua pr.ub (.inl c1)))
 ·rw[if_neg (by simpa using c1)];have nb:=pr.nb;have na:=pr.na;by_cases c2:0+1=a.size
  ·rw[if_pos (by simpa using c2)];exact wpS_pure (q _ _ (Sk.refl _) (h1.endL pr.ua pr.ub (nN pr c2)))
  ·rw[if_neg (by simpa using c2)];refine wpS_bind (wpS_get ?_);refine wpS_bind (wpS_mono (wpS_forRange (I:=λx c st'=>Sk st st'/\c.1=none/\Gd rk a b (x+1) c.1 c.2.1 c.2.2.1 c.2.2.2.1) (Q:=λc st'=>Sk st st'/\∃r,c.1=some r/\CC rk a.toList b.toList r) ?step ?fin ?init) ?post)
   case init=>exact⟨Sk.refl _,rfl,h1,(show 0+1 < a.size by omega),(show 1 < b.size by omega),Nat.le_refl _⟩
   case fin=>
    rintro⟨ret,out,ia,ib,g⟩ st' ⟨_,e,hg⟩;have e:ret=none:=e;subst e;obtain⟨_,g1,g2,g3⟩:=hg;have g1:ia+1 < a.size:=g1;have g2:ib < b.size:=g2;have g3:max 0 (a.size+b.size)+1<=ia+ib:=g3;omega
   case post=>
    rintro⟨ret,out,ia,ib,g⟩ st' ⟨sk,r,e,hf⟩;have e:ret=some r:=e;subst e;exact wpS_pure (q r st' sk hf)
   case step=>
    rintro x ⟨ret,out,ia,ib,g⟩ st1 _ hx ⟨sk1,e,hg⟩;have e:ret=none:=e;subst e;obtain⟨g0,g1,g2,g3⟩:=hg;have g0:MI rk a.toList b.toList out.toList ia ib:=g0;have g1:ia+1 < a.size:=g1;have g2:ib < b.size:=g2;have g3:x+1<=ia+ib:=g3;have hk1:kindOf st1=kd:=by rw[sk1.2.1];exact hk
    unfold BV;dsimp only;refine wpS_bind (wpS_mono (wpS_forRange (I:=λz c st'=>st'=st1/\c.1=none/\Gd rk a b (x+1+min z 1) c.1 c.2.1 c.2.2.1 c.2.2.2.1) (Q:=λc st'=>st'=st1/\Gd rk a b (x+2) c.1 c.2.1 c.2.2.1 c.2.2.2.1) ?s1 ?f1 ?i1) ?p1)
    case i1=>exact⟨rfl,rfl,g0,g1,g2,by simpa using g3⟩
    case f1=>
     rintro c st' ⟨e1,_,hg⟩;refine⟨e1,?_⟩;rwa[show x+1+min (max 0 (a.size+b.size)) 1=x+2 by omega] at hg
    case s1=>
     rintro z ⟨ret,out,ia,ib,ac,bc⟩ st' _ hz ⟨rfl,e,hg⟩;have e:ret=none:=e;subst e;obtain⟨g0,g1,g2,g3⟩:=hg;have g3:x+1+min z 1<=ia+ib:=g3;refine wpS_mono (FL (p:=x+2) od pr hk1 g0 g1 g2 ⋯) λr st2 q2=>?_;obtain⟨rfl,q2⟩:=q2;cases r with
     |done c=>exact⟨rfl,q2⟩
     |yield c=>
      refine⟨rfl,q2.1,?_⟩;rw[show x+1+min (z+1) 1=x+2 by omega];exact q2.2
    case p1=>
     rintro⟨ret,out,ia,ib,ac,bc⟩ st' ⟨rfl,hg⟩;cases ret with
     |some r=>exact wpS_pure ⟨sk1,r,rfl,hg⟩
     |none=>
      obtain⟨g0,g1,g2,g3⟩:=hg;have g0:MI rk a.toList b.toList out.toList ia ib:=g0;have g1:ia+1 < a.size:=g1;have g2:ib < b.size:=g2;have g3:x+2<=ia+ib:=g3;dsimp only;refine wpS_bind (wpS_lift (wpAny_rule ⟨rfl,?_⟩));refine wpS_bind (wpS_mono (wpS_forRange (I:=λz c st2=>Sk st2 st2/\Sk st' st2/\c.1=none/\lN rk a b (x+2) c) (Q:=λc st2=>Sk st' st2/\lN rk a b (x+2) c) ?s2 ?f2 ?i2) ?p2)
      case i2=>exact⟨Sk.refl _,Sk.refl _,rfl,g0,g1,g2,g3⟩
      case f2=>
       rintro c st2 ⟨_,e1,_,hg⟩;exact⟨e1,hg⟩
      case s2=>
       rintro z ⟨ret,out,ia,ib,gg,ac,bc⟩ st2 _ hz ⟨_,sk2,e,hg⟩;have e:ret=none:=e;subst e;obtain⟨g0,g1,g2,g3⟩:=hg;have g3:x+2<=ia+ib:=g3;have hk2:kindOf st2=kd:=by rw[sk2.2.1];exact hk1
       have go:∀gg',wpS M A E s (CL a b out ia ib gg' ac bc) (mK rk a b (x+2) st2) st2:=λgg'=>EL od pr hk2 g0 g1 g2 ⋯;unfold AV;dsimp only
       split
       ·refine wpS_mono (go _) λr st3 q3=>?_;obtain⟨q4,q5⟩:=q3;cases r with
        |done c=>exact⟨sk2.trans q4,q5⟩
        |yield c=>exact⟨Sk.refl _,sk2.trans q4,q5.1,q5.2⟩
       ·refine wpS_mono (go _) λr st3 q3=>?_;obtain⟨q4,q5⟩:=q3;cases r with
        |done c=>exact⟨sk2.trans q4,q5⟩
        |yield c=>exact⟨Sk.refl _,sk2.trans q4,q5.1,q5.2⟩
      case p2=>
       rintro⟨ret,out,ia,ib,gg,ac,bc⟩ st2 ⟨sk2,hg⟩;cases ret with
       |some r=>exact wpS_pure ⟨sk1.trans sk2,r,rfl,hg⟩
       |none=>
        obtain⟨g0,g1,g2,g3⟩:=hg;dsimp only;refine wpS_bind (jN λst3 sk3=>wpS_pure ⟨sk1.trans (sk2.trans sk3),rfl,g0,g1,g2,?_⟩);exact g3
end
noncomputable def fD:Array Keyed->Array Keyed->StateT SortSt Sem (Array Keyed):=sortPriv% PySem.Builtin.mergeHi
noncomputable abbrev U6:=Option (Array Keyed)×Nat×Nat×Array Keyed×Nat×Nat
noncomputable abbrev U7:=Option (Array Keyed)×Nat×Nat×Array Keyed×Nat×Nat×Nat
noncomputable abbrev U5:=Option (Array Keyed)×Nat×Nat×Array Keyed×Nat
noncomputable def qC (a b:Array Keyed) (out:Array Keyed) (na nb:Nat):Array Keyed:=a.extract 0 na++b.extract 0 nb++out.reverse
noncomputable def iF (a b:Array Keyed) (out:Array Keyed) (na nb:Nat):Array Keyed:=b.extract 0 nb++a.extract 0 na++out.reverse
noncomputable def oN (a b:Array Keyed) (out:Array Keyed) (na nb g k k1:Nat):StateT SortSt Sem (ForInStep U7):=do
 let x<-elem' a (na - 1)
 if (na - 1 == 0)=true then pure (ForInStep.done (some (qC a b (out.push x) (na - 1) nb),na - 1,nb,out.push x,g,k,k1))
 else if (decide (k < 7)&&decide (k1 < 7))=true then pure (ForInStep.done (none,na - 1,nb,out.push x,g,k,k1))
 else pure (ForInStep.yield (none,na - 1,nb,out.push x,g,k,k1))
noncomputable def pN (a b:Array Keyed) (out:Array Keyed) (na nb g k bc:Nat):StateT SortSt Sem (ForInStep U7):=do
 let y<-elem' b (nb - 1)
 if (nb - 1 == 1)=true then pure (ForInStep.done (some (iF a b (out.push y) na (nb - 1)),na,nb - 1,out.push y,g,k,bc))
 else do
  let x<-elem' a (na - 1)
  let r<-LB true x b 0 (nb - 1) (nb - 1 - 1)
  match r with
  |some at_=>
   if nb - 1 - at_ > 0 then
    if (at_ == 1)=true then pure (ForInStep.done (some (iF a b (out.push y++(b.extract at_ (nb - 1)).reverse) na at_),na,at_,out.push y++(b.extract at_ (nb - 1)).reverse,g,k,nb - 1 - at_))
    else if (at_ == 0)=true then pure (ForInStep.done (some (qC a b (out.push y++(b.extract at_ (nb - 1)).reverse) na at_),na,at_,out.push y++(b.extract at_ (nb - 1)).reverse,g,k,nb - 1 - at_))
    else oN a b (out.push y++(b.extract at_ (nb - 1)).reverse) na at_ g k (nb - 1 - at_)
   else oN a b (out.push y) na (nb - 1) g k (nb - 1 - at_)
  |_=>pure (ForInStep.done (some (qC a b (out.push y) na (nb - 1)),na,nb - 1,out.push y,g,k,bc))
noncomputable def GL (a b:Array Keyed) (out:Array Keyed) (na nb g ac bc:Nat):StateT SortSt Sem (ForInStep U7):=do
 YF g
 let y<-elem' b (nb - 1)
 let r<-LB false y a 0 na (na - 1)
 match r with
 |some at_=>
  if na - at_ > 0 then
   if (at_ == 0)=true then pure (ForInStep.done (some (qC a b (out++(a.extract at_ na).reverse) at_ nb),at_,nb,out++(a.extract at_ na).reverse,g,na - at_,bc))
   else pN a b (out++(a.extract at_ na).reverse) at_ nb g (na - at_) bc
  else pN a b out na nb g (na - at_) bc
 |_=>pure (ForInStep.done (some (qC a b out na nb),na,nb,out,g,ac,bc))
noncomputable def cP (a b:Array Keyed) (mg:Nat) (s:U6):StateT SortSt Sem (ForInStep U6):=do
 let y<-elem' b (s.snd.snd.fst - 1)
 let x<-elem' a (s.snd.fst - 1)
 let r<-lt' y x
 match r with
 |some aw=>
  if aw=true then do
   let x<-elem' a (s.snd.fst - 1)
   if (s.snd.fst - 1 == 0)=true then pure (ForInStep.done (some (qC a b (s.snd.snd.snd.fst.push x) (s.snd.fst - 1) s.snd.snd.fst),s.snd.fst - 1,s.snd.snd.fst,s.snd.snd.snd.fst.push x,s.snd.snd.snd.snd.fst+1,0))
   else if s.snd.snd.snd.snd.fst+1>=mg then pure (ForInStep.done (none,s.snd.fst - 1,s.snd.snd.fst,s.snd.snd.snd.fst.push x,s.snd.snd.snd.snd.fst+1,0))
   else pure (ForInStep.yield (none,s.snd.fst - 1,s.snd.snd.fst,s.snd.snd.snd.fst.push x,s.snd.snd.snd.snd.fst+1,0))
  else do
   let y<-elem' b (s.snd.snd.fst - 1)
   if (s.snd.snd.fst - 1 == 1)=true then pure (ForInStep.done (some (iF a b (s.snd.snd.snd.fst.push y) s.snd.fst (s.snd.snd.fst - 1)),s.snd.fst,s.snd.snd.fst - 1,s.snd.snd.snd.fst.push y,0,s.snd.snd.snd.snd.snd+1))
   else if s.snd.snd.snd.snd.snd+1>=mg then pure (ForInStep.done (none,s.snd.fst,s.snd.snd.fst - 1,s.snd.snd.snd.fst.push y,0,s.snd.snd.snd.snd.snd+1))
   else pure (ForInStep.yield (none,s.snd.fst,s.snd.snd.fst - 1,s.snd.snd.snd.fst.push y,0,s.snd.snd.snd.snd.snd+1))
 |_=>pure (ForInStep.done (some (qC a b s.snd.snd.snd.fst s.snd.fst s.snd.snd.fst),s.snd.fst,s.snd.snd.fst,s.snd.snd.snd.fst,s.snd.snd.snd.snd.fst,s.snd.snd.snd.snd.snd))
noncomputable def hi2 (a b:Array Keyed) (s:U7):StateT SortSt Sem (ForInStep U7):=
 if s.snd.snd.snd.snd.fst > 1 then GL a b s.snd.snd.snd.fst s.snd.fst s.snd.snd.fst (s.snd.snd.snd.snd.fst - 1) s.snd.snd.snd.snd.snd.fst s.snd.snd.snd.snd.snd.snd
 else GL a b s.snd.snd.snd.fst s.snd.fst s.snd.snd.fst s.snd.snd.snd.snd.fst s.snd.snd.snd.snd.snd.fst s.snd.snd.snd.snd.snd.snd
noncomputable def CV (a b:Array Keyed) (s:U5):StateT SortSt Sem (ForInStep U5):=do
 let t<-forIn [0:a.size+b.size] ((none,s.snd.fst,s.snd.snd.fst,s.snd.snd.snd.fst,0,0):U6) λ_ t=>cP a b s.snd.snd.snd.snd t
 match t.fst with
 |some r=>pure (ForInStep.done (some r,t.snd.fst,t.snd.snd.fst,t.snd.snd.snd.fst,s.snd.snd.snd.snd))
 |none=>do
  liftM (rule "list.sort.gallop")
  let u<-forIn [0:a.size+b.size] ((none,t.snd.fst,t.snd.snd.fst,t.snd.snd.snd.fst,s.snd.snd.snd.snd+1,t.snd.snd.snd.snd.fst,t.snd.snd.snd.snd.snd):U7) λ_ u=>hi2 a b u
  match u.fst with
  |some r=>pure (ForInStep.done (some r,u.snd.fst,u.snd.snd.fst,u.snd.snd.snd.fst,u.snd.snd.snd.snd.fst))
  |none=>do
   YF (u.snd.snd.snd.snd.fst+1)
   pure (ForInStep.yield (none,u.snd.fst,u.snd.snd.fst,u.snd.snd.snd.fst,u.snd.snd.snd.snd.fst+1))
theorem aZ (a b:Array Keyed):fD a b=(do
 rule "list.sort.merge-hi"
 let x<-elem' a (a.size - 1)
 if (a.size - 1 == 0)=true then pure (qC a b #[x] (a.size - 1) b.size)
 else if (b.size == 1)=true then pure (iF a b #[x] (a.size - 1) b.size)
 else do
  let st<-get
  let t<-forIn [0:a.size+b.size] ((none,a.size - 1,b.size, #[x],gallopOf st):U5) λ_ t=>CV a b t
  match t.fst with
  |some r=>pure r
  |none=>unsupported "internal:list.sort.merge-bound"):=by kernel_rfl
structure MH (rk:Keyed->Int) (la lb rl:List Keyed) (na nb:Nat):Prop where
 pm:(la.take na++lb.take nb++rl).Perm (la++lb)
 so:Up rk rl
 oa:∀x∈la.take na,∀y∈rl,rk x<=rk y
 ob:∀x∈lb.take nb,∀y∈rl,rk x<=rk y
theorem HG {α:Type} {l:List α} {i:Nat} {x:α} (h:l[i]?=some x):l.take (i+1)=l.take i++[x]:=by
 rw[List.take_add_one,h];rfl
theorem yH {rk:Keyed->Int} {l:List Keyed} {i:Nat} {x:Keyed} (hu:Up rk l) (h:l[i]?=some x):∀y∈l.take (i+1),rk y<=rk x:=λy hy=>by
 have hu2:Up rk (l.take (i+1)):=hu.sublist (List.take_sublist _ l);rw[HG h] at hu2 hy;rcases List.mem_append.mp hy with hy|hy
 ·exact (List.pairwise_append.mp hu2).2.2 y hy x (List.mem_singleton.mpr rfl)
 ·rw[List.mem_singleton.mp hy];exact Int.le_refl _
section
variable {rk:Keyed->Int} {la lb rl:List Keyed} {na nb:Nat} {x y:Keyed}
theorem MH.pushA (h:MH rk la lb rl (na+1) nb) (ha:Up rk la) (hx:la[na]?=some x) (hy:∀y∈lb.take nb,rk y<=rk x):MH rk la lb (x::rl) na nb:=by
 have hd:=HG hx;have hxa:=yH ha hx;have mem:∀z,z∈la.take na->z∈la.take (na+1):=λz hz=>by rw[hd];exact List.mem_append_left _ hz
 have memx:x∈la.take (na+1):=by rw[hd];exact List.mem_append_right _ (List.mem_singleton.mpr rfl)
 refine⟨?_,List.pairwise_cons.mpr ⟨λz hz=>h.oa x memx z hz,h.so⟩,?_,?_⟩
 ·refine List.Perm.trans ?_ h.pm;rw[hd,List.append_assoc,List.append_assoc,List.append_assoc];refine List.Perm.append_left _ ?_;rw[<-List.append_assoc];have:=List.perm_middle (a:=x) (l₁:=lb.take nb) (l₂:=rl);simpa[List.append_assoc] using this
 ·intro z hz w hw;rcases List.mem_cons.mp hw with rfl|hw
  ·exact hxa z (mem z hz)
  ·exact h.oa z (mem z hz) w hw
 ·intro z hz w hw;rcases List.mem_cons.mp hw with rfl|hw
  ·exact hy z hz
  ·exact h.ob z hz w hw
theorem MH.pushB (h:MH rk la lb rl na (nb+1)) (hb:Up rk lb) (hy:lb[nb]?=some y) (hx:∀x∈la.take na,rk x<=rk y):MH rk la lb (y::rl) na nb:=by
 have hd:=HG hy;have hyb:=yH hb hy;have mem:∀z,z∈lb.take nb->z∈lb.take (nb+1):=λz hz=>by rw[hd];exact List.mem_append_left _ hz
 have memy:y∈lb.take (nb+1):=by rw[hd];exact List.mem_append_right _ (List.mem_singleton.mpr rfl)
 refine⟨?_,List.pairwise_cons.mpr ⟨λz hz=>h.ob y memy z hz,h.so⟩,?_,?_⟩
 ·have:=h.pm;rw[hd] at this;simpa[List.append_assoc] using this
 ·intro z hz w hw;rcases List.mem_cons.mp hw with rfl|hw
  ·exact hx z hz
  ·exact h.oa z hz w hw
 ·intro z hz w hw;rcases List.mem_cons.mp hw with rfl|hw
  ·exact hyb z (mem z hz)
  ·exact h.ob z (mem z hz) w hw
theorem MH.blkA (ha:Up rk la) {na:Nat}:∀(k:Nat) {rl:List Keyed},MH rk la lb rl (na+k) nb->na+k<=la.length->(∀i,i < k->∀x,la[na+i]?=some x->∀y∈lb.take nb,rk y<=rk x)->MH rk la lb ((la.drop na).take k++rl) na nb
 |0,rl,h,_,_=>by rw[List.take_zero,List.nil_append];exact h
 |k+1,rl,h,hk,hy=>by
  obtain⟨x,hx⟩:∃x,la[na+k]?=some x:=⟨_,List.getElem?_eq_getElem ⋯⟩
  have h2:=MH.pushA (na:=na+k) h ha hx (hy k ⋯ x hx);have ih:=MH.blkA ha k h2 ⋯ λi hi=>hy i ⋯;rw[fN hx,List.append_assoc];exact ih
theorem MH.blkB (hb:Up rk lb) {nb:Nat}:∀(k:Nat) {rl:List Keyed},MH rk la lb rl na (nb+k)->nb+k<=lb.length->(∀i,i < k->∀y,lb[nb+i]?=some y->∀x∈la.take na,rk x<=rk y)->MH rk la lb ((lb.drop nb).take k++rl) na nb
 |0,rl,h,_,_=>by rw[List.take_zero,List.nil_append];exact h
 |k+1,rl,h,hk,hx=>by
  obtain⟨y,hy⟩:∃y,lb[nb+k]?=some y:=⟨_,List.getElem?_eq_getElem ⋯⟩
  have h2:=MH.pushB (nb:=nb+k) h hb hy (hx k ⋯ y hy);have ih:=MH.blkB hb k h2 ⋯ λi hi=>hx i ⋯;rw[fN hy,List.append_assoc];exact ih
theorem qN {a:Array Keyed} {i:Nat}:(a.extract 0 i).toList=a.toList.take i:=by
 rw[Array.toList_extract];show ((a.toList.drop 0).take (i - 0))=_;rw[List.drop_zero,Nat.sub_zero]
theorem rN {out:Array Keyed} {x:Keyed}:(out.push x).toList.reverse=x::out.toList.reverse:=by simp
theorem DV {out a:Array Keyed} {i j k:Nat} (h:j=i+k):(out++(a.extract i j).reverse).toList.reverse=(a.toList.drop i).take k++out.toList.reverse:=by
 subst h;rw[Array.toList_append,List.reverse_append,Array.toList_reverse,List.reverse_reverse,gN]
theorem MH.done {a b out:Array Keyed} (h:MH rk a.toList b.toList out.toList.reverse na nb) (ha:Up rk a.toList) (hb:Up rk b.toList) (hd:na=0\/nb=0):CC rk a.toList b.toList (qC a b out na nb):=by
 unfold CC qC;rw[Array.toList_append,Array.toList_append,qN,qN,Array.toList_reverse];refine⟨h.pm,?_⟩;have sa:Up rk (a.toList.take na):=ha.sublist (List.take_sublist _ _);have sb:Up rk (b.toList.take nb):=hb.sublist (List.take_sublist _ _);refine List.pairwise_append.mpr ⟨List.pairwise_append.mpr ⟨sa,sb,?_⟩,h.so,λx hx y hy=>?_⟩
 ·intro x hx y hy;rcases hd with rfl|rfl
  ·rw[List.take_zero] at hx;cases hx
  ·rw[List.take_zero] at hy;cases hy
 ·rcases List.mem_append.mp hx with hx|hx
  ·exact h.oa x hx y hy
  ·exact h.ob x hx y hy
theorem MH.first {a b out:Array Keyed} (h:MH rk a.toList b.toList out.toList.reverse na nb) (ha:Up rk a.toList) (hb:Up rk b.toList) (hl:∀x∈b.toList.take nb,∀y∈a.toList,rk x<=rk y):CC rk a.toList b.toList (iF a b out na nb):=by
 unfold CC iF;rw[Array.toList_append,Array.toList_append,qN,qN,Array.toList_reverse];have sa:Up rk (a.toList.take na):=ha.sublist (List.take_sublist _ _);have sb:Up rk (b.toList.take nb):=hb.sublist (List.take_sublist _ _);constructor
 ·exact List.Perm.trans (List.Perm.append_right _ List.perm_append_comm) h.pm
 ·refine List.pairwise_append.mpr ⟨List.pairwise_append.mpr ⟨sb,sa,λx hx y hy=>hl x hx y (List.mem_of_mem_take hy)⟩,h.so,λx hx y hy=>?_⟩;rcases List.mem_append.mp hx with hx|hx
  ·exact h.ob x hx y hy
  ·exact h.oa x hx y hy
end
section
variable {M:Model} {A:Around} {E:Value->Shared->Prop} {s:Shared} {kd:SortKind} {Ok:Keyed->Prop} {rk:Keyed->Int} {a b:Array Keyed}
noncomputable def Hd (rk:Keyed->Int) (a b:Array Keyed) (p:Nat) (ret:Option (Array Keyed)) (na nb:Nat) (out:Array Keyed):Prop:=match ret with
 |some r=>CC rk a.toList b.toList r
 |none=>MH rk a.toList b.toList out.toList.reverse na nb/\1<=na/\2<=nb/\na<=a.size/\nb<=b.size/\p+na+nb<=a.size+b.size
noncomputable def sN (rk:Keyed->Int) (a b:Array Keyed) (p:Nat) (c:U7):Prop:=Hd rk a b p c.1 c.2.1 c.2.2.1 c.2.2.2.1
noncomputable def nK (rk:Keyed->Int) (a b:Array Keyed) (p:Nat) (st:SortSt) (r:ForInStep U7) (st':SortSt):Prop:=Sk st st'/\match r with
 |.done c=>sN rk a b p c
 |.yield c=>c.1=none/\sN rk a b p c
theorem tN (pr:Pr rk Ok a b) {nb:Nat} (h:nb=1):∀x∈b.toList.take nb,∀y∈a.toList,rk x<=rk y:=λx hx y hy=>by
 subst h;obtain⟨z,h1,h2,_⟩:=at_ (a:=b) (i:=0) pr.nb;rw[show (1:Nat)=0+1 from rfl,HG h2,List.take_zero,List.nil_append] at hx;rw[List.mem_singleton.mp hx];exact Int.le_of_lt (pr.fst z h1 y hy)
theorem zH (pr:Pr rk Ok a b) {out:Array Keyed} {na nb g k k1 p:Nat} {st:SortSt} (h:MH rk a.toList b.toList out.toList.reverse na nb) (hna:1<=na) (hnb:2<=nb) (ha:na<=a.size) (hb:nb<=b.size) (hx:∀x,a[na - 1]?=some x->∀y∈b.toList.take nb,rk y<=rk x) (hp:p+(na - 1)+nb<=a.size+b.size):
  wpS M A E s (oN a b out na nb g k k1) (nK rk a b p st) st:=by
 unfold oN;obtain⟨x,e1,e2,_⟩:=at_ (a:=a) (i:=na - 1) ⋯;refine wpS_bind (dD e1 ?_);have h2:MH rk a.toList b.toList (out.push x).toList.reverse (na - 1) nb:=by
  rw[rN];rw[show na=(na - 1)+1 by omega] at h;exact h.pushA pr.ua e2 (hx x e1)
 by_cases c:na - 1=0
 ·rw[if_pos (by simpa using c)];exact wpS_pure ⟨Sk.refl _,h2.done pr.ua pr.ub (.inl c)⟩
 ·rw[if_neg (by simpa using c)];have hg:Hd rk a b p none (na - 1) nb (out.push x):=⟨h2,⋯,hnb,⋯,hb,⋯⟩
  split
  ·exact wpS_pure ⟨Sk.refl _,hg⟩
  ·exact wpS_pure ⟨Sk.refl _,rfl,hg⟩
theorem AH (od:Od kd Ok rk M A E s) (pr:Pr rk Ok a b) {out:Array Keyed} {na nb g k bc p:Nat} {st:SortSt} (hk:kindOf st=kd) (h:MH rk a.toList b.toList out.toList.reverse na nb) (hna:1<=na) (hnb:2<=nb) (ha:na<=a.size) (hb:nb<=b.size) (hy:∀y,b[nb - 1]?=some y->∀x∈a.toList.take na,rk x<=rk y) (hp:p+na+(nb - 1)<=a.size+b.size):
  wpS M A E s (pN a b out na nb g k bc) (nK rk a b p st) st:=by
 unfold pN;obtain⟨y,f1,f2,f3⟩:=at_ (a:=b) (i:=nb - 1) ⋯;obtain⟨x,e1,e2,e3⟩:=at_ (a:=a) (i:=na - 1) ⋯;refine wpS_bind (dD f1 ?_);have h2:MH rk a.toList b.toList (out.push y).toList.reverse na (nb - 1):=by
  rw[rN];rw[show nb=(nb - 1)+1 by omega] at h;exact h.pushB pr.ub f2 (hy y f1)
 by_cases c:nb - 1=1
 ·rw[if_pos (by simpa using c)];exact wpS_pure ⟨Sk.refl _,h2.first pr.ua pr.ub (tN pr c)⟩
 ·rw[if_neg (by simpa using c)];refine wpS_bind (dD e1 ?_);refine wpS_bind (lK od hk (pr.oa x e3) (λi hi=>?_) (kN pr.ub ⋯) ⋯ λat' hat hlt hge=>?_)
  ·obtain⟨z,z1,_,z3⟩:=at_ (a:=b) (i:=0+i) ⋯;exact⟨z,z1,pr.ob z z3⟩
  dsimp only;have hxd:∀w∈a.toList.take na,rk w<=rk x:=λw hw=>yH pr.ua e2 w (by rw[show na - 1+1=na by omega];exact hw);have h3:MH rk a.toList b.toList ((b.toList.drop at').take (nb - 1 - at')++(out.push y).toList.reverse) na at':=by
   refine MH.blkB pr.ub (nb - 1 - at') (by rw[show at'+(nb - 1 - at')=nb - 1 by omega];exact h2) (by rw[Array.length_toList];omega) λi hi z hz w hw=>?_;have:=hge (at'+i) ⋯ ⋯;unfold bB at this;rw[if_pos rfl,YC (show b[0+(at'+i)]?=some z by rw[<-Array.getElem?_toList,Nat.zero_add];exact hz)] at this;exact Int.le_trans (hxd w hw) (Int.not_lt.mp (of_decide_eq_false this))
  have hnx:1<=at'->∀x',a[na - 1]?=some x'->∀w∈b.toList.take at',rk w<=rk x':=λhlt2 x' hx' w hw=>by
   rw[e1] at hx';cases hx';obtain⟨z,z1,z2,_⟩:=at_ (a:=b) (i:=at' - 1) ⋯;have:=hlt (at' - 1) ⋯;unfold bB at this;rw[if_pos rfl,YC (show b[0+(at' - 1)]?=some z by rw[Nat.zero_add];exact z1)] at this;exact Int.le_trans (yH pr.ub z2 w (by rw[show at' - 1+1=at' by omega];exact hw)) (Int.le_of_lt (of_decide_eq_true this))
  by_cases ck:nb - 1 - at' > 0
  ·rw[if_pos ck];have h4:MH rk a.toList b.toList (out.push y++(b.extract at' (nb - 1)).reverse).toList.reverse na at':=by rw[DV (k:=nb - 1 - at') ⋯];exact h3
   by_cases c2:at'=1
   ·rw[if_pos (by simpa using c2)];exact wpS_pure ⟨Sk.refl _,h4.first pr.ua pr.ub (tN pr c2)⟩
   ·rw[if_neg (by simpa using c2)];by_cases c3:at'=0
    ·rw[if_pos (by simpa using c3)];exact wpS_pure ⟨Sk.refl _,h4.done pr.ua pr.ub (.inr c3)⟩
    ·rw[if_neg (by simpa using c3)];exact zH pr h4 hna ⋯ ha ⋯ (hnx ⋯) ⋯
  ·rw[if_neg ck];have:at'=nb - 1:=⋯;subst this;exact zH pr h2 hna ⋯ ha ⋯ (hnx ⋯) ⋯
theorem HL (od:Od kd Ok rk M A E s) (pr:Pr rk Ok a b) {out:Array Keyed} {na nb g ac bc p:Nat} {st:SortSt} (hk:kindOf st=kd) (h:MH rk a.toList b.toList out.toList.reverse na nb) (hna:1<=na) (hnb:2<=nb) (ha:na<=a.size) (hb:nb<=b.size) (hp:p+na+(nb - 1)<=a.size+b.size):
  wpS M A E s (GL a b out na nb g ac bc) (nK rk a b p st) st:=by
 unfold GL;refine wpS_bind (jN λst1 sk=>?_);have hk1:kindOf st1=kd:=by rw[sk.2.1];exact hk
 have up:∀r st',nK rk a b p st1 r st'->nK rk a b p st r st':=λr st' q=>⟨sk.trans q.1,q.2⟩
 refine wpS_mono ?_ up;obtain⟨y,f1,f2,f3⟩:=at_ (a:=b) (i:=nb - 1) ⋯;refine wpS_bind (dD f1 ?_);refine wpS_bind (lK od hk1 (pr.ob y f3) (λi hi=>?_) (kN pr.ua ⋯) ⋯ λat' hat hlt hge=>?_)
 ·obtain⟨z,z1,_,z3⟩:=at_ (a:=a) (i:=0+i) ⋯;exact⟨z,z1,pr.oa z z3⟩
 dsimp only;have hyd:∀w∈b.toList.take nb,rk w<=rk y:=λw hw=>yH pr.ub f2 w (by rw[show nb - 1+1=nb by omega];exact hw);have h3:MH rk a.toList b.toList ((a.toList.drop at').take (na - at')++out.toList.reverse) at' nb:=by
  refine MH.blkA pr.ua (na - at') (by rw[show at'+(na - at')=na by omega];exact h) (by rw[Array.length_toList];omega) λi hi z hz w hw=>?_;have:=hge (at'+i) ⋯ ⋯;unfold bB at this;rw[if_neg Bool.false_ne_true,YC (show a[0+(at'+i)]?=some z by rw[<-Array.getElem?_toList,Nat.zero_add];exact hz)] at this;have this:decide (rk y < rk z)=true:=by simpa using this
  exact Int.le_trans (hyd w hw) (Int.le_of_lt (of_decide_eq_true this))
 have hnx:1<=at'->∀y',b[nb - 1]?=some y'->∀w∈a.toList.take at',rk w<=rk y':=λhlt2 y' hy' w hw=>by
  rw[f1] at hy';cases hy';obtain⟨z,z1,z2,_⟩:=at_ (a:=a) (i:=at' - 1) ⋯;have:=hlt (at' - 1) ⋯;unfold bB at this;rw[if_neg Bool.false_ne_true,YC (show a[0+(at' - 1)]?=some z by rw[Nat.zero_add];exact z1)] at this;have this:decide (rk y < rk z)=false:=by simpa using this
  exact Int.le_trans (yH pr.ua z2 w (by rw[show at' - 1+1=at' by omega];exact hw)) (Int.not_lt.mp (of_decide_eq_false this))
 by_cases ck:na - at' > 0
 ·rw[if_pos ck];have h4:MH rk a.toList b.toList (out++(a.extract at' na).reverse).toList.reverse at' nb:=by rw[DV (k:=na - at') ⋯];exact h3
  by_cases c:at'=0
  ·rw[if_pos (by simpa using c)];exact wpS_pure ⟨Sk.refl _,h4.done pr.ua pr.ub (.inl c)⟩
  ·rw[if_neg (by simpa using c)];exact AH od pr hk1 h4 ⋯ hnb ⋯ hb (hnx ⋯) ⋯
 ·rw[if_neg ck];have:at'=na:=⋯;subst this;exact AH od pr hk1 h hna hnb ha hb (hnx ⋯) ⋯
theorem IL (od:Od kd Ok rk M A E s) (pr:Pr rk Ok a b) {out:Array Keyed} {na nb mg ac bc p:Nat} {st:SortSt} (hk:kindOf st=kd) (h:MH rk a.toList b.toList out.toList.reverse na nb) (hna:1<=na) (hnb:2<=nb) (ha:na<=a.size) (hb:nb<=b.size) (hp:p+na+nb<=a.size+b.size+1):
  wpS M A E s (cP a b mg (none,na,nb,out,ac,bc)) (λr st'=>st'=st/\match r with
   |.done c=>Hd rk a b p c.1 c.2.1 c.2.2.1 c.2.2.2.1
   |.yield c=>c.1=none/\Hd rk a b p c.1 c.2.1 c.2.2.1 c.2.2.2.1) st:=by
 unfold cP;dsimp only;obtain⟨y,f1,f2,f3⟩:=at_ (a:=b) (i:=nb - 1) ⋯;obtain⟨x,e1,e2,e3⟩:=at_ (a:=a) (i:=na - 1) ⋯;refine wpS_bind (dD f1 (wpS_bind (dD e1 (wpS_bind (od st y x _ hk (pr.ob y f3) (pr.oa x e3) ?_)))));dsimp only;have hyd:∀w∈b.toList.take nb,rk w<=rk y:=λw hw=>yH pr.ub f2 w (by rw[show nb - 1+1=nb by omega];exact hw);have hxd:∀w∈a.toList.take na,rk w<=rk x:=λw hw=>yH pr.ua e2 w (by rw[show na - 1+1=na by omega];exact hw);by_cases hlt:rk y < rk x
 ·rw[decide_eq_true hlt,if_pos rfl];refine wpS_bind (dD e1 ?_);have h2:MH rk a.toList b.toList (out.push x).toList.reverse (na - 1) nb:=by
   rw[rN];rw[show na=(na - 1)+1 by omega] at h;exact h.pushA pr.ua e2 λw hw=>Int.le_trans (hyd w hw) (Int.le_of_lt hlt)
  by_cases c:na - 1=0
  ·rw[if_pos (by simpa using c)];exact wpS_pure ⟨rfl,h2.done pr.ua pr.ub (.inl c)⟩
  ·rw[if_neg (by simpa using c)];have hg:Hd rk a b p none (na - 1) nb (out.push x):=⟨h2,⋯,hnb,⋯,hb,⋯⟩
   split
   ·exact wpS_pure ⟨rfl,hg⟩
   ·exact wpS_pure ⟨rfl,rfl,hg⟩
 ·rw[decide_eq_false hlt,if_neg Bool.false_ne_true];refine wpS_bind (dD f1 ?_);have h2:MH rk a.toList b.toList (out.push y).toList.reverse na (nb - 1):=by
   rw[rN];rw[show nb=(nb - 1)+1 by omega] at h;exact h.pushB pr.ub f2 λw hw=>Int.le_trans (hxd w hw) (Int.not_lt.mp hlt)
  by_cases c:nb - 1=1
  ·rw[if_pos (by simpa using c)];exact wpS_pure ⟨rfl,h2.first pr.ua pr.ub (tN pr c)⟩
  ·rw[if_neg (by simpa using c)];have hg:Hd rk a b p none na (nb - 1) (out.push y):=⟨h2,hna,⋯,ha,⋯,⋯⟩
   split
   ·exact wpS_pure ⟨rfl,hg⟩
   ·exact wpS_pure ⟨rfl,rfl,hg⟩
theorem bZ (od:Od kd Ok rk M A E s) (pr:Pr rk Ok a b) {st:SortSt} {Q:Array Keyed->SortSt->Prop} (hk:kindOf st=kd) (q:∀r st',Sk st st'->CC rk a.toList b.toList r->Q r st'):wpS M A E s (fD a b) Q st:=by
 rw[aZ];refine wpS_bind (wpS_lift (wpAny_rule ⟨rfl,?_⟩));have nb:=pr.nb;have na:=pr.na;obtain⟨x,f1,f2,f3⟩:=at_ (a:=a) (i:=a.size - 1) ⋯;refine wpS_bind (dD f1 ?_);have h1:MH rk a.toList b.toList (#[x]:Array Keyed).toList.reverse (a.size - 1) b.size:=by
  have e0:MH rk a.toList b.toList [] (a.size - 1+1) b.size:=by
   rw[show a.size - 1+1=a.toList.length by rw[Array.length_toList];omega,show b.size=b.toList.length from (Array.length_toList).symm];refine⟨?_,List.Pairwise.nil,λx _ w hw=>(List.not_mem_nil hw).elim,λx _ w hw=>(List.not_mem_nil hw).elim⟩;rw[List.take_length,List.take_length,List.append_nil]
  exact e0.pushA pr.ua f2 λw hw=>Int.le_of_lt (pr.lst x f1 w (List.mem_of_mem_take hw))
 by_cases c1:a.size - 1=0
 ·rw[if_pos (by simpa using c1)];exact wpS_pure (q _ _ (Sk.refl _) (h1.done pr.ua pr.ub (.inl c1)))
 ·rw[if_neg (by simpa using c1)];by_cases c2:b.size=1
  ·rw[if_pos (by simpa using c2)];exact wpS_pure (q _ _ (Sk.refl _) (h1.first pr.ua pr.ub (tN pr c2)))
  ·rw[if_neg (by simpa using c2)];refine wpS_bind (wpS_get ?_);refine wpS_bind (wpS_mono (wpS_forRange (I:=λx c st'=>Sk st st'/\c.1=none/\Hd rk a b (x+1) c.1 c.2.1 c.2.2.1 c.2.2.2.1) (Q:=λc st'=>Sk st st'/\∃r,c.1=some r/\CC rk a.toList b.toList r) ?step ?fin ?init) ?post)
   case init=>exact⟨Sk.refl _,rfl,h1,(show 1<=a.size - 1 by omega),(show 2<=b.size by omega),(show a.size - 1<=a.size by omega),Nat.le_refl _,(show 0+1+(a.size - 1)+b.size<=a.size+b.size by omega)⟩
   case fin=>
    rintro⟨ret,na,nb,out,g⟩ st' ⟨_,e,hg⟩;have e:ret=none:=e;subst e;obtain⟨_,g1,g2,_,_,g3⟩:=hg;have g1:1<=na:=g1;have g3:max 0 (a.size+b.size)+1+na+nb<=a.size+b.size:=g3;omega
   case post=>
    rintro⟨ret,na,nb,out,g⟩ st' ⟨sk,r,e,hf⟩;have e:ret=some r:=e;subst e;exact wpS_pure (q r st' sk hf)
   case step=>
    rintro x ⟨ret,na,nb,out,g⟩ st1 _ hx ⟨sk1,e,hg⟩;have e:ret=none:=e;subst e;obtain⟨g0,g1,g2,g4,g5,g3⟩:=hg;have g0:MH rk a.toList b.toList out.toList.reverse na nb:=g0;have g1:1<=na:=g1;have g2:2<=nb:=g2;have g4:na<=a.size:=g4;have g5:nb<=b.size:=g5;have g3:x+1+na+nb<=a.size+b.size:=g3;have hk1:kindOf st1=kd:=by rw[sk1.2.1];exact hk
    unfold CV;dsimp only;refine wpS_bind (wpS_mono (wpS_forRange (I:=λz c st'=>st'=st1/\c.1=none/\Hd rk a b (x+1+min z 1) c.1 c.2.1 c.2.2.1 c.2.2.2.1) (Q:=λc st'=>st'=st1/\Hd rk a b (x+2) c.1 c.2.1 c.2.2.1 c.2.2.2.1) ?s1 ?f1 ?i1) ?p1)
    case i1=>exact⟨rfl,rfl,g0,g1,g2,g4,g5,(show x+1+min 0 1+na+nb<=a.size+b.size by omega)⟩
    case f1=>
     rintro c st' ⟨e1,_,hg⟩;refine⟨e1,?_⟩;rwa[show x+1+min (max 0 (a.size+b.size)) 1=x+2 by omega] at hg
    case s1=>
     rintro z ⟨ret,na,nb,out,ac,bc⟩ st' _ hz ⟨rfl,e,hg⟩;have e:ret=none:=e;subst e;obtain⟨g0,g1,g2,g4,g5,g3⟩:=hg;have g3:x+1+min z 1+na+nb<=a.size+b.size:=g3;refine wpS_mono (IL (p:=x+2) od pr hk1 g0 g1 g2 g4 g5 ⋯) λr st2 q2=>?_;obtain⟨rfl,q2⟩:=q2;cases r with
     |done c=>exact⟨rfl,q2⟩
     |yield c=>
      refine⟨rfl,q2.1,?_⟩;rw[show x+1+min (z+1) 1=x+2 by omega];exact q2.2
    case p1=>
     rintro⟨ret,na,nb,out,ac,bc⟩ st' ⟨rfl,hg⟩;cases ret with
     |some r=>exact wpS_pure ⟨sk1,r,rfl,hg⟩
     |none=>
      obtain⟨g0,g1,g2,g4,g5,g3⟩:=hg;have g3:x+2+na+nb<=a.size+b.size:=g3;dsimp only;refine wpS_bind (wpS_lift (wpAny_rule ⟨rfl,?_⟩));refine wpS_bind (wpS_mono (wpS_forRange (I:=λz c st2=>Sk st2 st2/\Sk st' st2/\c.1=none/\sN rk a b (x+2) c) (Q:=λc st2=>Sk st' st2/\sN rk a b (x+2) c) ?s2 ?f2 ?i2) ?p2)
      case i2=>exact⟨Sk.refl _,Sk.refl _,rfl,g0,g1,g2,g4,g5,g3⟩
      case f2=>
       rintro c st2 ⟨_,e1,_,hg⟩;exact⟨e1,hg⟩
      case s2=>
       rintro z ⟨ret,na,nb,out,gg,ac,bc⟩ st2 _ hz ⟨_,sk2,e,hg⟩;have e:ret=none:=e;subst e;obtain⟨g0,g1,g2,g4,g5,g3⟩:=hg;have g3:x+2+na+nb<=a.size+b.size:=g3;have g2:2<=nb:=g2;have hk2:kindOf st2=kd:=by rw[sk2.2.1];exact hk1
       have go:∀gg',wpS M A E s (GL a b out na nb gg' ac bc) (nK rk a b (x+2) st2) st2:=λgg'=>HL od pr hk2 g0 g1 g2 g4 g5 ⋯;unfold hi2;dsimp only
       split
       ·refine wpS_mono (go _) λr st3 q3=>?_;obtain⟨q4,q5⟩:=q3;cases r with
        |done c=>exact⟨sk2.trans q4,q5⟩
        |yield c=>exact⟨Sk.refl _,sk2.trans q4,q5.1,q5.2⟩
       ·refine wpS_mono (go _) λr st3 q3=>?_;obtain⟨q4,q5⟩:=q3;cases r with
        |done c=>exact⟨sk2.trans q4,q5⟩
        |yield c=>exact⟨Sk.refl _,sk2.trans q4,q5.1,q5.2⟩
      case p2=>
       rintro⟨ret,na,nb,out,gg,ac,bc⟩ st2 ⟨sk2,hg⟩;cases ret with
       |some r=>exact wpS_pure ⟨sk1.trans sk2,r,rfl,hg⟩
       |none=>
        obtain⟨g0,g1,g2,g4,g5,g3⟩:=hg;dsimp only;refine wpS_bind (jN λst3 sk3=>wpS_pure ⟨sk1.trans (sk2.trans sk3),rfl,g0,g1,g2,g4,g5,?_⟩);exact g3
end
noncomputable def dJ (at_:Nat) (l:List Keyed) (xs:Array Keyed):Array Keyed:=l.zipIdx.foldl (λa (p,j)=>a.setIfInBounds (at_+j) p) xs
noncomputable def iE (at_:Nat) (merged:Array Keyed):StateT SortSt Sem Bool:=do
 modify λs=>SortSt.mk' (kindOf s) (dJ at_ merged.toList (arrOf s)) (pendingOf s) (gallopOf s) (failedOf s)
 let st<-get
 pure (failedOf st).isNone
noncomputable def EV (xs:Array Keyed) (sa na sb nb:Nat):StateT SortSt Sem Bool:=
 if (nb == 0)=true then pure true
 else if na<=nb then do
  let m<-eD (xs.extract sa sb) (xs.extract sb (sb+nb))
  iE sa m
 else do
  let m<-fD (xs.extract sa sb) (xs.extract sb (sb+nb))
  iE sa m
noncomputable def FV (xs:Array Keyed) (sa na sb nb:Nat):StateT SortSt Sem Bool:=do
 let y<-elem' xs sb
 let r<-LB false y xs sa na 0
 match r with
 |some k=>
  if (na - k == 0)=true then pure true
  else do
   let x<-elem' xs (sa+k+(na - k) - 1)
   let r<-LB true x xs sb nb (nb - 1)
   match r with
   |some nb'=>EV xs (sa+k) (na - k) sb nb'
   |_=>pure false
 |_=>pure false
noncomputable def GV (i:Nat) (s:SortSt) (sa na pw sb nb:Nat):StateT SortSt Sem Bool:=do
 set (setPending s (((pendingOf s).setIfInBounds i (sa,na+nb,pw)).eraseIdxIfInBounds (i+1)))
 FV (arrOf s) sa na sb nb
theorem cZ (i:Nat):mergeAt' i=(do
 let s<-get
 match (pendingOf s)[i]?,(pendingOf s)[i+1]? with
 |some (sa,na,pw),some (sb,nb,_)=>GV i s sa na pw sb nb
 |_,_=>unsupported "internal:list.sort.pending"):=by kernel_rfl
noncomputable abbrev sl (xs:Array Keyed) (i n:Nat):List Keyed:=(xs.toList.drop i).take n
theorem uN {xs:Array Keyed} {i n j:Nat} (hj:j < n):(sl xs i n)[j]?=xs[i+j]?:=by
 rw[List.getElem?_take_of_lt hj,List.getElem?_drop,Array.getElem?_toList]
theorem ZF {xs:Array Keyed} {i n:Nat} (h:i+n<=xs.size):(sl xs i n).length=n:=by
 rw[List.length_take,List.length_drop,Array.length_toList];omega
theorem vN {rk:Keyed->Int} {xs:Array Keyed} {i n j:Nat} (hj:j < (sl xs i n).length):Kr rk xs (i+j)=rk (sl xs i n)[j]:=by
 have h1:(sl xs i n)[j]?=some (sl xs i n)[j]:=List.getElem?_eq_getElem hj;rw[uN (by rw[List.length_take] at hj;omega)] at h1;exact YC h1
theorem HV {rk:Keyed->Int} {xs:Array Keyed} {i n:Nat} (h:BC rk xs i n) (hn:i+n<=xs.size):Up rk (sl xs i n):=by
 refine List.pairwise_iff_getElem.mpr λj k h1 h2 hjk=>?_;rw[<-vN (rk:=rk) h1,<-vN (rk:=rk) h2];exact h j k ⋯ (by rw[ZF hn] at h2;exact h2)
theorem BH {rk:Keyed->Int} {xs:Array Keyed} {i n:Nat} (h:Up rk (sl xs i n)) (hn:i+n<=xs.size):BC rk xs i n:=λj k hjk hk=>by
 have h1:j < (sl xs i n).length:=by rw[ZF hn];omega
 have h2:k < (sl xs i n).length:=by rw[ZF hn];omega
 rw[vN h1,vN h2];by_cases c:j=k
 ·subst c;exact Int.le_refl _
 ·exact List.pairwise_iff_getElem.mp h j k h1 h2 ⋯
theorem eJ {xs:Array Keyed} {i n:Nat} {z:Keyed} (h:z∈sl xs i n):∃j,j < n/\xs[i+j]?=some z:=by
 obtain⟨j,hj,e⟩:=List.getElem_of_mem h;have hj2:j < n:=by rw[List.length_take] at hj;omega
 refine⟨j,hj2,?_⟩;rw[<-uN hj2,List.getElem?_eq_getElem hj,e]
theorem wN {xs:Array Keyed} {i n k:Nat} (hk:k<=n):sl xs i n=sl xs i k++sl xs (i+k) (n - k):=by
 show (xs.toList.drop i).take n=_
 conv=>lhs;rw[show n=k+(n - k) by omega,List.take_add]
 rw[List.drop_drop]
theorem IV {xs:Array Keyed} {i j n:Nat} (h:j=i+n):(xs.extract i j).toList=sl xs i n:=by subst h;exact gN
theorem fJ {rk:Keyed->Int} {A1 X Y B2 m:List Keyed} (h1:Up rk (A1++X)) (h2:Up rk (Y++B2)) (hm:m.Perm (X++Y)) (hu:Up rk m) (c1:∀x∈A1,∀y∈Y++B2,rk x<=rk y) (c2:∀x∈X,∀y∈B2,rk x<=rk y):Up rk (A1++(m++B2)):=by
 obtain⟨a1,_,a3⟩:=List.pairwise_append.mp h1;obtain⟨_,b2,b3⟩:=List.pairwise_append.mp h2;refine List.pairwise_append.mpr ⟨a1,List.pairwise_append.mpr ⟨hu,b2,λx hx y hy=>?_⟩,λx hx y hy=>?_⟩
 ·rcases List.mem_append.mp (hm.mem_iff.mp hx) with h|h
  ·exact c2 x h y hy
  ·exact b3 x h y hy
 ·rcases List.mem_append.mp hy with h|h
  ·rcases List.mem_append.mp (hm.mem_iff.mp h) with h|h
   ·exact a3 x hx y h
   ·exact c1 x hx y (List.mem_append_left _ h)
  ·exact c1 x hx y (List.mem_append_right _ h)
theorem JV (i:Nat):∀(l:List Keyed) (j:Nat) (P M Z:List Keyed),P.length=i+j->M.length=l.length->((l.zipIdx j).foldl (λ(a:Array Keyed) (q:Keyed×Nat)=>a.setIfInBounds (i+q.2) q.1) (P++(M++Z)).toArray).toList=P++(l++Z)
 |[],j,P,M,Z,hP,hM=>by
  have:M=[]:=List.eq_nil_of_length_eq_zero hM;subst this;rfl
 |x::l,j,P,[],Z,hP,hM=>by cases hM
 |x::l,j,P,m::M,Z,hP,hM=>by
  have hs:((P++(m::M++Z)).toArray.setIfInBounds (i+j) x)=((P++[x])++(M++Z)).toArray:=by
   rw[List.setIfInBounds_toArray,<-hP,List.set_append_right _ _ (Nat.le_refl _),Nat.sub_self];simp
  have ih:=JV i l (j+1) (P++[x]) M Z (by rw[List.length_append,hP];rfl) (by simpa using hM);rw[List.zipIdx_cons,List.foldl_cons];show ((l.zipIdx (j+1)).foldl _ ((P++(m::M++Z)).toArray.setIfInBounds (i+j) x)).toList=_;rw[hs,ih];simp
theorem dZ {i:Nat} {l P M Z:List Keyed} {xs:Array Keyed} (h:xs.toList=P++(M++Z)) (hP:P.length=i) (hM:M.length=l.length):(dJ i l xs).toList=P++(l++Z):=by
 have:xs=(P++(M++Z)).toArray:=by rw[<-h]
 subst this;exact JV i l 0 P M Z (by rw[hP];rfl) hM
theorem gJ {xs:Array Keyed} {i n:Nat} (h:i+n<=xs.size):xs.toList=xs.toList.take i++(sl xs i n++xs.toList.drop (i+n))/\(xs.toList.take i).length=i:=by
 constructor
 ·conv=>lhs;rw[<-List.take_append_drop i xs.toList,<-List.take_append_drop n (xs.toList.drop i),List.drop_drop]
 ·rw[List.length_take,Array.length_toList];omega
noncomputable def Ct:List (Nat×Nat×Nat)->Nat->Nat->Prop
 |[],s,e=>s=e
 |t::l,s,e=>t.1=s/\1<=t.2.1/\Ct l (s+t.2.1) e
theorem Ct.app:∀{l1 l2:List (Nat×Nat×Nat)} {s e:Nat},Ct (l1++l2) s e↔∃m,Ct l1 s m/\Ct l2 m e
 |[],l2,s,e=>⟨λh=>⟨s,rfl,h⟩,λ⟨m,h1,h2⟩=>by cases h1;exact h2⟩
 |t::l1,l2,s,e=>by
  constructor
  ·rintro⟨h1,h2,h3⟩;obtain⟨m,h4,h5⟩:=Ct.app.mp h3;exact⟨m,⟨h1,h2,h4⟩,h5⟩
  ·rintro⟨m,⟨h1,h2,h4⟩,h5⟩;exact⟨h1,h2,Ct.app.mpr ⟨m,h4,h5⟩⟩
theorem Ct.len:∀{l:List (Nat×Nat×Nat)} {s e:Nat},Ct l s e->s+l.length<=e
 |[],s,e,h=>by cases h;exact Nat.le_refl _
 |t::l,s,e,⟨_,h2,h3⟩=>by have:=Ct.len h3;rw[List.length_cons];omega
theorem Ct.mem:∀{l:List (Nat×Nat×Nat)} {s e:Nat},Ct l s e->∀t∈l,s<=t.1/\t.1+t.2.1<=e
 |[],s,e,h,t,ht=>by cases ht
 |u::l,s,e,⟨h1,h2,h3⟩,t,ht=>by
  have h4:=Ct.len h3;rcases List.mem_cons.mp ht with rfl|ht
  ·omega
  ·have:=Ct.mem h3 t ht;omega
theorem eZ {pd:Array (Nat×Nat×Nat)} {l1 l2:List (Nat×Nat×Nat)} {t u v:Nat×Nat×Nat} (h:pd.toList=l1++(t::u::l2)):((pd.setIfInBounds l1.length v).eraseIdxIfInBounds (l1.length+1)).toList=l1++(v::l2):=by
 have:pd=(l1++(t::u::l2)).toArray:=by rw[<-h]
 subst this;rw[List.setIfInBounds_toArray,List.set_append_right _ _ (Nat.le_refl _),Nat.sub_self,List.set_cons_zero,List.eraseIdxIfInBounds_toArray,List.eraseIdx_append_of_length_le ⋯,show l1.length+1 - l1.length=1 by omega]
 rfl
section
variable {M:Model} {A:Around} {E:Value->Shared->Prop} {s:Shared} {a₀:Array Keyed} {kd:SortKind} {pd:Array (Nat×Nat×Nat)} {Ok:Keyed->Prop} {rk:Keyed->Int}
theorem JL {σ:Type} {t st:σ} {Q:PUnit->σ->Prop} (h:Q ⟨⟩ t):wpS M A E s (set t:StateT σ Sem PUnit) Q st:=by
 exact wpS_modify (f:=λ_=>t) h
theorem fZ {st:SortSt} {i:Nat} {P X Z:List Keyed} {r:Array Keyed} {Q:Bool->SortSt->Prop} (hB:Sb a₀ kd pd st) (hs:(arrOf st).toList=P++(X++Z)) (hP:P.length=i) (hr:r.toList.Perm X)
  (h:∀st',Sb a₀ kd pd st'->(arrOf st').toList=P++(r.toList++Z)->Q true st'):wpS M A E s (iE i r) Q st:=by
 unfold iE;refine wpS_bind (wpS_modify (wpS_bind (wpS_get ?_)));show wpS _ _ _ _ (pure (failedOf st).isNone) Q _;rw[show (failedOf st).isNone=true by rw[hB.failed];rfl];have e:=dZ (l:=r.toList) hs hP hr.length_eq.symm;refine wpS_pure (h _ ⟨?_,hB.kind,hB.failed,hB.pend⟩ e);refine Array.Perm.trans (Array.perm_iff_toList_perm.mpr ?_) hB.perm;show (dJ i r.toList (arrOf st)).toList.Perm (arrOf st).toList;rw[e,hs];exact List.Perm.append_left _ (List.Perm.append_right _ hr)
theorem hJ {xs:Array Keyed} {P N Z:List Keyed} {i n:Nat} (h:xs.toList=P++(N++Z)) (hP:P.length=i) (hN:N.length=n):sl xs i n=N:=by
 show (xs.toList.drop i).take n=N;rw[h,<-hP,List.drop_left,<-hN,List.take_left]
theorem gZ {xs ys:Array Keyed} {P N N' Z:List Keyed} {i n:Nat} (h:xs.toList=P++(N++Z)) (h':ys.toList=P++(N'++Z)) (hP:P.length=i) (hN:N.length=n) (hN':N'.length=n):IC xs ys i n:=λk hk=>by
 rw[<-Array.getElem?_toList,<-Array.getElem?_toList,h,h'];by_cases c:k < P.length
 ·rw[List.getElem?_append_left c,List.getElem?_append_left c]
 ·rw[List.getElem?_append_right ⋯,List.getElem?_append_right ⋯,List.getElem?_append_right ⋯,List.getElem?_append_right ⋯,hN,hN']
theorem hZ {st:SortSt} {l1 l2:List (Nat×Nat×Nat)} {sa na pw sb nb q0:Nat} {Q:Bool->SortSt->Prop} (od:Od kd Ok rk M A E s) (h0:KB Ok a₀) (hB:Sb a₀ kd pd st) (hp:pd.toList=l1++((sa,na,pw)::(sb,nb,q0)::l2)) (hsb:sb=sa+na) (hna:1<=na) (hnb:1<=nb) (hn:sb+nb<=a₀.size)
  (s1:BC rk (arrOf st) sa na) (s2:BC rk (arrOf st) sb nb)
  (h:∀st' pd',pd'.toList=l1++((sa,na+nb,pw)::l2)->Sb a₀ kd pd' st'->BC rk (arrOf st') sa (na+nb)->IC (arrOf st) (arrOf st') sa (na+nb)->Q true st'):wpS M A E s (mergeAt' l1.length) Q st:=by
 rw[cZ];refine wpS_bind (wpS_get ?_);have e1:(pendingOf st)[l1.length]?=some (sa,na,pw):=by
  rw[hB.pend,<-Array.getElem?_toList,hp,List.getElem?_append_right (Nat.le_refl _),Nat.sub_self];rfl
 have e2:(pendingOf st)[l1.length+1]?=some (sb,nb,q0):=by
  rw[hB.pend,<-Array.getElem?_toList,hp,List.getElem?_append_right ⋯,show l1.length+1 - l1.length=1 by omega];rfl
 rw[e1,e2];dsimp only;unfold GV;have hsz:=hB.size;obtain⟨xs,hxs⟩:∃xs,arrOf st=xs:=⟨_,rfl⟩
 obtain⟨pd',hpd⟩:∃pd',((pendingOf st).setIfInBounds l1.length (sa,na+nb,pw)).eraseIdxIfInBounds (l1.length+1)=pd':=⟨_,rfl⟩
 have hp':pd'.toList=l1++((sa,na+nb,pw)::l2):=by rw[<-hpd,hB.pend];exact eZ hp
 have hB1:Sb a₀ kd pd' (setPending st pd'):=⟨hB.perm,hB.kind,hB.failed,rfl⟩
 have ha1:arrOf (setPending st pd')=xs:=hxs;rw[hpd];refine wpS_bind (JL ?_);generalize setPending st pd'=st1 at hB1 ha1 ⊢;have hat:∀i,i < a₀.size->∃p,xs[i]?=some p/\Ok p:=λi hi=>by rw[<-hxs];exact hB.at h0 hi
 rw[hxs] at s1 s2 hsz ⊢;have h:=λst' q1 q2 q3=>h st' pd' hp' q1 q2 q3;rw[hxs] at h;have stay:Up rk (sl xs sa na++sl xs (sa+na) nb)->Q true st1:=λhu=>by
  refine h st1 hB1 ?_ (by rw[ha1];exact IC.rfl');rw[ha1];refine BH ?_ ⋯;rw[wN (k:=na) ⋯,show na+nb - na=nb by omega];exact hu
 unfold FV;have uA:=HV s1 ⋯;have uB:=HV s2 ⋯;obtain⟨y,y1,yo⟩:=hat sb ⋯;refine wpS_bind (dD y1 ?_);refine wpS_bind (lK od hB1.kind yo (λi hi=>hat _ ⋯) s1 ⋯ λk hk lt ge=>?_);dsimp only;have A1le:∀z∈sl xs sa k,rk z<=rk y:=λz hz=>by
  obtain⟨j,hj,e⟩:=eJ hz;have:=lt j hj;unfold bB at this;rw[if_neg Bool.false_ne_true,YC e] at this;have this:decide (rk y < rk z)=false:=by simpa using this
  exact Int.not_lt.mp (of_decide_eq_false this)
 have Xgt:∀z∈sl xs (sa+k) (na - k),rk y < rk z:=λz hz=>by
  obtain⟨j,hj,e⟩:=eJ hz;have:=ge (k+j) ⋯ ⋯;unfold bB at this;rw[if_neg Bool.false_ne_true,YC (show xs[sa+(k+j)]?=some z by rw[<-Nat.add_assoc];exact e)] at this;have this:decide (rk y < rk z)=true:=by simpa using this
  exact of_decide_eq_true this
 have yle:∀w∈sl xs sb nb,rk y<=rk w:=λw hw=>by
  obtain⟨j,hj,e⟩:=eJ hw;have:=s2 0 j ⋯ hj;rwa[YC (show xs[sb+0]?=some y from y1),YC e] at this
 by_cases c:na - k=0
 ·rw[if_pos (by simpa using c)];have:k=na:=⋯;subst this;refine wpS_pure (stay (List.pairwise_append.mpr ⟨uA,by rw[<-hsb];exact uB,λz hz w hw=>?_⟩));rw[<-hsb] at hw;exact Int.le_trans (A1le z hz) (yle w hw)
 ·rw[if_neg (by simpa using c)];obtain⟨x,x1,xo⟩:=hat (sa+k+(na - k) - 1) ⋯;refine wpS_bind (dD x1 ?_);refine wpS_bind (lK od hB1.kind xo (λi hi=>hat _ ⋯) s2 ⋯ λnb' hnb' lt2 ge2=>?_);dsimp only;have x2:xs[sa+(na - 1)]?=some x:=by rw[<-x1];congr 1;omega
  have lex:∀z∈sl xs sa na,rk z<=rk x:=λz hz=>by
   obtain⟨j,hj,e⟩:=eJ hz;have:=s1 j (na - 1) ⋯ ⋯;rwa[YC e,YC x2] at this
  have Ylt:∀z∈sl xs sb nb',rk z < rk x:=λz hz=>by
   obtain⟨j,hj,e⟩:=eJ hz;have:=lt2 j hj;unfold bB at this;rw[if_pos rfl,YC e] at this;exact of_decide_eq_true this
  have B2ge:∀z∈sl xs (sb+nb') (nb - nb'),rk x<=rk z:=λz hz=>by
   obtain⟨j,hj,e⟩:=eJ hz;have:=ge2 (nb'+j) ⋯ ⋯;unfold bB at this;rw[if_pos rfl,YC (show xs[sb+(nb'+j)]?=some z by rw[<-Nat.add_assoc];exact e)] at this;exact Int.not_lt.mp (of_decide_eq_false this)
  unfold EV;by_cases c2:nb'=0
  ·rw[if_pos (by simpa using c2)];subst c2;refine wpS_pure (stay (List.pairwise_append.mpr ⟨uA,by rw[<-hsb];exact uB,λz hz w hw=>?_⟩));rw[<-hsb] at hw;exact Int.le_trans (lex z hz) (B2ge w (by simpa using hw))
  ·rw[if_neg (by simpa using c2)];have eA:sl xs sa na=sl xs sa k++sl xs (sa+k) (na - k):=wN hk;have eB:sl xs sb nb=sl xs sb nb'++sl xs (sb+nb') (nb - nb'):=wN hnb';have hX:(xs.extract (sa+k) sb).toList=sl xs (sa+k) (na - k):=IV ⋯;have hY:(xs.extract sb (sb+nb')).toList=sl xs sb nb':=IV rfl;have zX:(xs.extract (sa+k) sb).size=na - k:=by rw[<-Array.length_toList,hX,ZF ⋯]
   have zY:(xs.extract sb (sb+nb')).size=nb':=by rw[<-Array.length_toList,hY,ZF ⋯]
   have okm:∀i n,i+n<=a₀.size->∀z∈sl xs i n,Ok z:=λi n hin z hz=>by
    obtain⟨j,hj,e⟩:=eJ hz;obtain⟨p,p1,p2⟩:=hat (i+j) ⋯;rw[e] at p1;cases p1;exact p2
   have uA':=uA;have uB':=uB;rw[eA] at uA';rw[eB] at uB';have pr:Pr rk Ok (xs.extract (sa+k) sb) (xs.extract sb (sb+nb')):=by
    refine⟨by rw[hX];exact (List.pairwise_append.mp uA').2.1,by rw[hY];exact (List.pairwise_append.mp uB').1,by rw[hX];exact okm _ _ ⋯,by rw[hY];exact okm _ _ ⋯,λx' hx' w hw=>?_,λy' hy' w hw=>?_,⋯,⋯⟩
    ·rw[zX,<-Array.getElem?_toList,hX,uN ⋯,show sa+k+(na - k - 1)=sa+(na - 1) by omega,x2] at hx';cases hx';rw[hY] at hw;exact Ylt w hw
    ·rw[<-Array.getElem?_toList,hY,uN ⋯] at hy';have hy':xs[sb]?=some y':=hy';rw[y1] at hy';cases hy';rw[hX] at hw;exact Xgt w hw
   have go:∀r st',Sk st1 st'->CC rk (xs.extract (sa+k) sb).toList (xs.extract sb (sb+nb')).toList r->wpS M A E s (iE (sa+k) r) Q st':=λr st' sk hf=>by
    rw[hX,hY] at hf;obtain⟨f1,f2⟩:=hf;have hB2:Sb a₀ kd pd' st':=⟨by rw[sk.1];exact hB1.perm,by rw[sk.2.1];exact hB1.kind,by rw[sk.2.2.1];exact hB1.failed,by rw[sk.2.2.2];exact hB1.pend⟩
    have cut1:=gJ (xs:=xs) (i:=sa) (n:=na+nb) ⋯;have eM:sl xs sa (na+nb)=sl xs sa k++((sl xs (sa+k) (na - k)++sl xs sb nb')++sl xs (sb+nb') (nb - nb')):=by
     rw[wN (k:=na) ⋯,show na+nb - na=nb by omega,<-hsb,eA,eB];simp only[List.append_assoc]
    have lr:r.toList.length=(na - k)+nb':=by rw[f1.length_eq,List.length_append,ZF ⋯,ZF ⋯]
    refine fZ hB2 (P:=xs.toList.take sa++sl xs sa k) (X:=sl xs (sa+k) (na - k)++sl xs sb nb') (Z:=sl xs (sb+nb') (nb - nb')++xs.toList.drop (sa+(na+nb))) ?_ ?_ f1 λst2 b1 b2=>?_
    ·rw[sk.1,ha1];refine cut1.1.trans ?_;rw[eM];simp only[List.append_assoc]
    ·rw[List.length_append,cut1.2,ZF ⋯]
    ·have b3:(arrOf st2).toList=xs.toList.take sa++((sl xs sa k++(r.toList++sl xs (sb+nb') (nb - nb')))++xs.toList.drop (sa+(na+nb))):=by rw[b2];simp only[List.append_assoc]
     have ln:(sl xs sa k++(r.toList++sl xs (sb+nb') (nb - nb'))).length=na+nb:=by
      rw[List.length_append,List.length_append,lr,ZF ⋯,ZF ⋯];omega
     refine h st2 b1 (BH ?_ (by rw[b1.size];omega)) (gZ cut1.1 b3 cut1.2 (ZF ⋯) ln);rw[hJ b3 cut1.2 ln];refine fJ uA' uB' f1 f2 (λz hz w hw=>?_) λz hz w hw=>?_
     ·rw[<-eB] at hw;exact Int.le_trans (A1le z hz) (yle w hw)
     ·exact Int.le_trans (lex z (by rw[eA];exact List.mem_append_right _ hz)) (B2ge w hw)
   by_cases c3:na - k<=nb'
   ·rw[if_pos c3];exact wpS_bind (ZY od pr hB1.kind go)
   ·rw[if_neg c3];exact wpS_bind (bZ od pr hB1.kind go)
end
noncomputable abbrev V2:=Option Unit×Nat
noncomputable def TD (lo n:Nat):StateT SortSt Sem (ForInStep V2):=do
 modify λs=>setPending s ((pendingOf s).push (lo,n,0))
 pure (ForInStep.yield (none,lo+n))
noncomputable def KL (pw:Nat):StateT SortSt Sem (ForInStep (Option Unit×Unit)):=do
 let st<-get
 match (if (pendingOf st).size > 1 then (pendingOf st)[(pendingOf st).size - 2]? else none) with
 |some (_,_,older)=>
  if older<=pw then pure (ForInStep.done (none,()))
  else do
   let b<-mergeAt' ((pendingOf st).size - 2)
   if (!b)=true then pure (ForInStep.done (some (),()))
   else pure (ForInStep.yield (none,()))
 |_=>pure (ForInStep.done (none,()))
noncomputable def jF (pw:Nat) (t:Nat×Nat×Nat):Nat×Nat×Nat:=match t with
 |(st,len,_)=>(st,len,pw)
noncomputable def dP (size lo n pw:Nat):StateT SortSt Sem (ForInStep V2):=do
 let r<-forIn [0:size] ((none,()):Option Unit×Unit) λ_ _=>KL pw
 match r.fst with
 |some r=>pure (ForInStep.done (some r,lo))
 |none=>do
  modify λs=>setPending s ((pendingOf s).modify ((pendingOf s).size - 1) (jF pw))
  TD lo n
noncomputable def xN (size lo n:Nat):StateT SortSt Sem (ForInStep V2):=do
 let st<-get
 match (pendingOf st).back? with
 |some (s1,n1,_)=>dP size lo n (power' size (2 * s1+n1) (2 * s1+n1+n1+n) size)
 |_=>TD lo n
noncomputable def LV (size minrun:Nat) (c:V2):StateT SortSt Sem (ForInStep V2):=
 if c.snd>=size then pure (ForInStep.done (none,c.snd))
 else do
  let r<-countRun' c.snd (size - c.snd)
  match r with
  |some n=>
   if n < minrun then do
    liftM (rule "list.sort.binary-insertion")
    let b<-binarySort' c.snd (min (size - c.snd) minrun) n
    if (!b)=true then pure (ForInStep.done (some (),c.snd))
    else xN size c.snd (min (size - c.snd) minrun)
   else xN size c.snd n
  |_=>pure (ForInStep.done (some (),c.snd))
noncomputable def eI (p:Array (Nat×Nat×Nat)):Nat:=if Option.any (λx=>decide (x < p[p.size - 2+1]?.elim 0 λx=>x.snd.fst)) (if p.size - 2 > 0 then Option.map (λx=>x.snd.fst) p[p.size - 2 - 1]? else none)=true then p.size - 2 - 1 else p.size - 2
noncomputable def MV:StateT SortSt Sem (ForInStep (Option Unit×Unit)):=do
 let st<-get
 if (pendingOf st).size<=1 then pure (ForInStep.done (none,()))
 else do
  let b<-mergeAt' (eI (pendingOf st))
  if (!b)=true then pure (ForInStep.done (some (),()))
  else pure (ForInStep.yield (none,()))
theorem iZ:sortRuns'=(do
 let st<-get
 let t<-forIn [0:(arrOf st).size] ((none,0):V2) λ_ c=>LV (arrOf st).size (minRun' (arrOf st).size (arrOf st).size 0) c
 match t.fst with
 |some r=>pure r
 |none=>do
  let u<-forIn [0:(arrOf st).size] ((none,()):Option Unit×Unit) λ_ _=>MV
  match u.fst with
  |some r=>pure r
  |none=>pure ()):=by kernel_rfl
section
variable {M:Model} {A:Around} {E:Value->Shared->Prop} {s:Shared} {a₀:Array Keyed} {kd:SortKind} {pd:Array (Nat×Nat×Nat)} {Ok:Keyed->Prop} {rk:Keyed->Int}
structure Pn (rk:Keyed->Int) (a₀:Array Keyed) (kd:SortKind) (pd:Array (Nat×Nat×Nat)) (lo:Nat) (st:SortSt):Prop where
 b:Sb a₀ kd pd st
 c:Ct pd.toList 0 lo
 g:∀t∈pd.toList,BC rk (arrOf st) t.1 t.2.1
 le:lo<=a₀.size
theorem Pn.out {lo lo' n':Nat} {st st':SortSt} (h:Pn rk a₀ kd pd lo st) (hb:Sb a₀ kd pd st') (o:IC (arrOf st) (arrOf st') lo' n') (hl:lo<=lo'):Pn rk a₀ kd pd lo st':=
 ⟨hb,h.c,λt ht=>(h.g t ht).out o (.inl (by have:=h.c.mem t ht;omega)),h.le⟩
theorem two_at {α:Type} {l:List α} {i:Nat} (h:i+1 < l.length):∃t u,l=l.take i++(t::u::l.drop (i+2))/\(l.take i).length=i:=by
 refine⟨l[i],l[i+1],?_,by rw[List.length_take];omega⟩
 conv=>lhs;rw[<-List.take_append_drop i l,List.drop_eq_getElem_cons ⋯,List.drop_eq_getElem_cons h]
theorem CH {lo i:Nat} {st:SortSt} {Q:Bool->SortSt->Prop} (od:Od kd Ok rk M A E s) (h0:KB Ok a₀) (h:Pn rk a₀ kd pd lo st) (hi:i+1 < pd.size)
  (q:∀st' pd',Pn rk a₀ kd pd' lo st'->pd'.size+1=pd.size->IC (arrOf st) (arrOf st') 0 lo->Q true st'):wpS M A E s (mergeAt' i) Q st:=by
 obtain⟨⟨sa,na,pw⟩,⟨sb,nb,q0⟩,e,hl⟩:=two_at (l:=pd.toList) (i:=i) (by rw[Array.length_toList];exact hi);generalize pd.toList.take i=l1 at e hl;generalize pd.toList.drop (i+2)=l2 at e;subst hl;have hc:=h.c;rw[e] at hc;obtain⟨m,c1,⟨d1,d2,d3,d4,d5⟩⟩:=Ct.app.mp hc;have d1:sa=m:=d1;have d2:1<=na:=d2;have d3:sb=m+na:=d3;have d4:1<=nb:=d4;have d5:Ct l2 (m+na+nb) lo:=d5;have d6:=d5.len;have hle:=h.le;have s1:BC rk (arrOf st) sa na:=h.g (sa,na,pw) (by rw[e];simp);have s2:BC rk (arrOf st) sb nb:=h.g (sb,nb,q0) (by rw[e];simp);refine hZ od h0 h.b e ⋯ d2 d4 ⋯ s1 s2 λst' pd' e' b' g' o'=>q st' pd' ⟨b',?_,λt ht=>?_,h.le⟩ ?_ (o'.wide ⋯ ⋯)
 ·rw[e'];refine Ct.app.mpr ⟨m,c1,d1,(show 1<=na+nb by omega),?_⟩;show Ct l2 (m+(na+nb)) lo;rw[<-Nat.add_assoc];exact d5
 ·rw[e'] at ht;rcases List.mem_append.mp ht with h1|h1
  ·have:=c1.mem t h1;exact (h.g t (by rw[e];exact List.mem_append_left _ h1)).out o' (.inl ⋯)
  ·rcases List.mem_cons.mp h1 with rfl|h1
   ·exact g'
   ·have:=d5.mem t h1;exact (h.g t (by rw[e];exact List.mem_append_right _ (List.mem_cons_of_mem _ (List.mem_cons_of_mem _ h1)))).out o' (.inr ⋯)
 ·rw[<-Array.length_toList,<-Array.length_toList,e,e'];simp only[List.length_append,List.length_cons];omega
theorem Ct.mod (pw:Nat):∀{l:List (Nat×Nat×Nat)} (i:Nat) {s e:Nat},Ct l s e->Ct (l.modify i (jF pw)) s e/\∀t∈l.modify i (jF pw),∃u∈l,t.1=u.1/\t.2.1=u.2.1
 |[],i,s,e,h=>by
  rw[show ([]:List (Nat×Nat×Nat)).modify i (jF pw)=[] by cases i<;>rfl];exact⟨h,λt ht=>by cases ht⟩
 |(a,b,c)::l,0,s,e,⟨h1,h2,h3⟩=>by
  rw[List.modify_zero_cons];refine⟨⟨h1,h2,h3⟩,λt ht=>?_⟩;rcases List.mem_cons.mp ht with rfl|ht
  ·exact⟨(a,b,c),List.mem_cons_self .., rfl,rfl⟩
  ·exact⟨t,List.mem_cons_of_mem _ ht,rfl,rfl⟩
 |u::l,i+1,s,e,⟨h1,h2,h3⟩=>by
  obtain⟨g1,g2⟩:=Ct.mod pw i h3;rw[List.modify_succ_cons];refine⟨⟨h1,h2,g1⟩,λt ht=>?_⟩;rcases List.mem_cons.mp ht with rfl|ht
  ·exact⟨t,List.mem_cons_self .., rfl,rfl⟩
  ·obtain⟨v,v1,v2⟩:=g2 t ht;exact⟨v,List.mem_cons_of_mem _ v1,v2⟩
noncomputable def yN (rk:Keyed->Int) (a₀:Array Keyed) (kd:SortKind) (lo:Nat) (r:ForInStep V2) (st':SortSt):Prop:=match r with
 |.done c=>False
 |.yield c=>∃lo' pd',c=(none,lo')/\lo < lo'/\Pn rk a₀ kd pd' lo' st'
theorem NV {lo n:Nat} {st:SortSt} (h:Pn rk a₀ kd pd lo st) (hg:BC rk (arrOf st) lo n) (hn:1<=n) (hle:lo+n<=a₀.size):wpS M A E s (TD lo n) (yN rk a₀ kd lo) st:=by
 unfold TD;refine wpS_bind (wpS_modify (wpS_pure ⟨lo+n,(pendingOf st).push (lo,n,0),rfl,⋯,⟨h.b.perm,h.b.kind,h.b.failed,rfl⟩,?_,λt ht=>?_,hle⟩))
 ·rw[h.b.pend,Array.toList_push];exact Ct.app.mpr ⟨lo,h.c,rfl,hn,rfl⟩
 ·rw[h.b.pend,Array.toList_push] at ht;rcases List.mem_append.mp ht with h1|h1
  ·exact h.g t h1
  ·rw[List.mem_singleton.mp h1];exact hg
theorem LL {lo n pw:Nat} {st:SortSt} (od:Od kd Ok rk M A E s) (h0:KB Ok a₀) (h:Pn rk a₀ kd pd lo st) (hg:BC rk (arrOf st) lo n) (hn:1<=n) (hle:lo+n<=a₀.size):wpS M A E s (dP a₀.size lo n pw) (yN rk a₀ kd lo) st:=by
 unfold dP;refine wpS_bind (wpS_mono (wpS_forRange (I:=λ_ c st'=>c=(none,())/\∃pd',Pn rk a₀ kd pd' lo st'/\BC rk (arrOf st') lo n) (Q:=λc st'=>c=(none,())/\∃pd',Pn rk a₀ kd pd' lo st'/\BC rk (arrOf st') lo n) ?step (λ_ _ q=>q) ⟨rfl,pd,h,hg⟩) ?post)
 case step=>
  rintro x c st1 _ _ ⟨rfl,pd1,h1,g1⟩;unfold KL;refine wpS_bind (wpS_get ?_);rw[h1.b.pend];by_cases c1:pd1.size > 1
  ·rw[if_pos c1];obtain⟨⟨t1,t2,t3⟩,e⟩:∃t,pd1[pd1.size - 2]?=some t:=⟨_,Array.getElem?_eq_getElem ⋯⟩
   rw[e];dsimp only;by_cases c2:t3<=pw
   ·rw[if_pos c2];exact wpS_pure ⟨rfl,pd1,h1,g1⟩
   ·rw[if_neg c2];refine wpS_bind (CH od h0 h1 ⋯ λst2 pd2 h2 _ o2=>?_);rw[if_neg (by simp)];exact wpS_pure ⟨rfl,pd2,h2,g1.out o2 (.inr ⋯)⟩
  ·rw[if_neg c1];exact wpS_pure ⟨rfl,pd1,h1,g1⟩
 case post=>
  rintro c st1 ⟨rfl,pd1,h1,g1⟩;dsimp only;refine wpS_bind (wpS_modify ?_);obtain⟨m1,m2⟩:=Ct.mod pw (pd1.size - 1) h1.c;refine NV (pd:=pd1.modify (pd1.size - 1) (jF pw)) ⟨⟨h1.b.perm,h1.b.kind,h1.b.failed,?_⟩,?_,λt ht=>?_,h1.le⟩ g1 hn hle
  ·show (pendingOf st1).modify ((pendingOf st1).size - 1) (jF pw)=_;rw[h1.b.pend]
  ·rw[Array.toList_modify];exact m1
  ·rw[Array.toList_modify] at ht;obtain⟨u,u1,u2,u3⟩:=m2 t ht;rw[u2,u3];exact h1.g u u1
theorem DH {lo n:Nat} {st:SortSt} (od:Od kd Ok rk M A E s) (h0:KB Ok a₀) (h:Pn rk a₀ kd pd lo st) (hg:BC rk (arrOf st) lo n) (hn:1<=n) (hle:lo+n<=a₀.size):wpS M A E s (xN a₀.size lo n) (yN rk a₀ kd lo) st:=by
 unfold xN;refine wpS_bind (wpS_get ?_);rw[h.b.pend];cases e:pd.back? with
 |none=>exact NV h hg hn hle
 |some t=>exact LL od h0 h hg hn hle
theorem ML {p:Array (Nat×Nat×Nat)} (h:1 < p.size):eI p+1 < p.size:=by
 unfold eI
 repeat' split
 all_goals omega
theorem jZ {st:SortSt} {Q:Unit->SortSt->Prop} (od:Od kd Ok rk M A E s) (h0:KB Ok a₀) (hB:Sb a₀ kd #[] st) (h2:1<=a₀.size)
  (h:∀st',(arrOf st').Perm a₀->failedOf st'=none->BC rk (arrOf st') 0 a₀.size->Q () st'):wpS M A E s sortRuns' Q st:=by
 rw[iZ];refine wpS_bind (wpS_get ?_);rw[hB.size];refine wpS_bind (wpS_mono (wpS_forRange (I:=λx c st'=>∃lo pd,c=(none,lo)/\x<=lo/\Pn rk a₀ kd pd lo st') (Q:=λc st'=>∃pd,c=(none,a₀.size)/\Pn rk a₀ kd pd a₀.size st') ?step ?fin ?init) ?post)
 case init=>exact⟨0, #[],rfl,Nat.le_refl _,hB,rfl,λt ht=>by simp at ht,Nat.zero_le _⟩
 case fin=>
  rintro c st' ⟨lo,pd,rfl,hx,hp⟩;have:=hp.le;have e:lo=a₀.size:=⋯;subst e;exact⟨pd,rfl,hp⟩
 case step=>
  rintro x c st1 _ hx ⟨lo,pd,rfl,hx2,hp⟩;have hle:=hp.le;unfold LV;dsimp only;by_cases c1:lo>=a₀.size
  ·rw[if_pos c1];have e:lo=a₀.size:=⋯;subst e;exact wpS_pure ⟨pd,rfl,hp⟩
  ·rw[if_neg c1];refine wpS_bind (VY od h0 ⋯ ⋯ hp.b λm st2 b2 m1 m2 g2 o2=>?_);dsimp only;have hp2:=hp.out b2 o2 (Nat.le_refl _);have nx:∀r st',yN rk a₀ kd lo r st'->(match r with
    |.done c=>∃pd,c=((none,a₀.size):V2)/\Pn rk a₀ kd pd a₀.size st'
    |.yield c=>∃lo pd,c=((none,lo):V2)/\x+1<=lo/\Pn rk a₀ kd pd lo st'):=λr st' hr=>by
    cases r with
    |done c=>exact hr.elim
    |yield c=>
     obtain⟨lo',pd',e1,e2,e3⟩:=hr;exact⟨lo',pd',e1,⋯,e3⟩
   by_cases c2:m < minRun' a₀.size a₀.size 0
   ·rw[if_pos c2];refine wpS_bind (wpS_lift (wpAny_rule ⟨rfl,?_⟩));refine wpS_bind (TY od h0 ⋯ ⋯ b2 g2 λst3 b3 g3 o3=>?_);rw[if_neg (by simp)];refine wpS_mono (DH od h0 (hp2.out b3 o3 (Nat.le_refl _)) g3 ⋯ ⋯) λr st' hr=>?_;cases r with
    |done c=>exact hr.elim
    |yield c=>exact nx (.yield c) st' hr
   ·rw[if_neg c2];refine wpS_mono (DH od h0 hp2 g2 m1 ⋯) λr st' hr=>?_;cases r with
    |done c=>exact hr.elim
    |yield c=>exact nx (.yield c) st' hr
 case post=>
  rintro c st1 ⟨pd,rfl,hp⟩;dsimp only;refine wpS_bind (wpS_mono (wpS_forRange (I:=λx c st'=>c=(none,())/\∃pd,Pn rk a₀ kd pd a₀.size st'/\pd.size<=max 1 (a₀.size - x)) (Q:=λc st'=>c=(none,())/\∃pd,Pn rk a₀ kd pd a₀.size st'/\pd.size<=1) ?s2 ?f2 ?i2) ?p2)
  case i2=>
   have:=hp.c.len;rw[Array.length_toList] at this;exact⟨rfl,pd,hp,⋯⟩
  case f2=>
   rintro c st' ⟨e,pd',h1,h2⟩;exact⟨e,pd',h1,⋯⟩
  case s2=>
   rintro x c st2 _ hx ⟨rfl,pd2,hp2,hz⟩;unfold MV;refine wpS_bind (wpS_get ?_);rw[hp2.b.pend];by_cases c1:pd2.size<=1
   ·rw[if_pos c1];exact wpS_pure ⟨rfl,pd2,hp2,c1⟩
   ·rw[if_neg c1];refine wpS_bind (CH od h0 hp2 (ML ⋯) λst3 pd3 h3 z3 _=>?_);rw[if_neg (by simp)];exact wpS_pure ⟨rfl,pd3,h3,⋯⟩
  case p2=>
   rintro c st2 ⟨rfl,pd2,hp2,hz⟩;dsimp only;refine wpS_pure (h st2 hp2.b.perm hp2.b.failed ?_);have hc:=hp2.c;have hg:=hp2.g;rw[<-Array.length_toList] at hz;generalize pd2.toList=l at hc hg hz
   match l,hc,hg,hz with
   |[],hc,_,_=>
    have hc:0=a₀.size:=hc;omega
   |[(a,b,c)],hc,hg,_=>
    obtain⟨e1,e2,e3⟩:=hc;have e1:a=0:=e1;have e3:0+b=a₀.size:=e3;have:=hg (a,b,c) (List.mem_singleton.mpr rfl);rw[<-e3,Nat.zero_add,<-e1];exact this
   |_::_::_,_,_,hz=>simp at hz
end
section
variable {prog:Program} {w:World} {A:Around} {E:Value->Shared->Prop} {s:Shared}
end
end TS
end L2
namespace L2
open PySem PySem.Spec PyProof.Rows
namespace TS
theorem iJ {h:Heap} {v:Value} {k l:List Key} (x:oB h v k) (y:oB h v l):k=l:=by
 obtain⟨x,o,xs,n,s1,a,b,t1,t2,t3,rfl,g1,g2,g3,g4,rfl⟩:=x;obtain⟨y,o',ys,n',s2,c,d,u1,u2,u3,e,f1,f2,f3,f4,rfl⟩:=y;cases e;rw[g1] at f1;cases f1;rw[g3] at f3;cases f3;rw[g4] at f4;cases f4
 rfl
open Classical in
noncomputable def kF (h:Heap) (v:Value):List Key:=if e:∃k,oB h v k then Classical.choose e else []
theorem EH {h:Heap} {v:Value} {k:List Key} (x:oB h v k):kF h v=k:=by
 unfold kF;rw[dif_pos ⟨k,x⟩];exact iJ (Classical.choose_spec (⟨k,x⟩:∃k,oB h v k)) x
noncomputable def jJ (h:Heap) (ks:List (List Key)) (p:Keyed):Int:=(ks.countP λk'=>DC k' (kF h p.1):Nat)
theorem FH {α:Type} {p q:α->Bool}:∀{l:List α},(∀x∈l,p x=true->q x=true)->l.countP p<=l.countP q:=λh=>List.countP_mono_left h
theorem OV {α:Type} {p q:α->Bool}:∀{l:List α} {y:α},(∀x∈l,p x=true->q x=true)->y∈l->q y=true->p y=false->l.countP p < l.countP q
 |x::l,y,h,hy,h1,h2=>by
  rw[List.countP_cons,List.countP_cons];rcases List.mem_cons.mp hy with rfl|hy
  ·rw[h1,h2];have:=FH (p:=p) (q:=q) (l:=l) λz hz=>h z (List.mem_cons_of_mem _ hz);simp only[if_true,Bool.false_eq_true,if_false];omega
  ·have:=OV (l:=l) (λz hz=>h z (List.mem_cons_of_mem _ hz)) hy h1 h2;have h3:=h x (List.mem_cons_self ..);cases e:p x with
   |false=>simp only[Bool.false_eq_true,if_false];split<;>omega
   |true=>rw[h3 e];simp only[if_true];omega
theorem GH {ks:List (List Key)} (ht:∀k∈ks,eC k) {k l:List Key} (hk:k∈ks) (hl:l∈ks):DC k l=decide ((ks.countP λk'=>DC k' k) < (ks.countP λk'=>DC k' l)):=by
 have go:∀{k l:List Key},k∈ks->l∈ks->DC k l=true->(ks.countP λk'=>DC k' k) < (ks.countP λk'=>DC k' l):=λ{k l} hk hl h=>
  OV (y:=k) (λx hx e=>QO (ht x hx) (ht k hk) (ht l hl) e h) hk h jV
 cases e:DC k l with
 |true=>exact (decide_eq_true (go hk hl e)).symm
 |false=>
  refine (decide_eq_false λh=>?_).symm;by_cases c:k=l
  ·subst c;exact Nat.lt_irrefl _ h
  ·rcases PO (ht k hk) (ht l hl) c with h1|h1
   ·rw[h1] at e;cases e
   ·exact Nat.lt_irrefl _ (Nat.lt_trans h (go hl hk h1))
section
variable {prog:Program} {w:World} {A:Around} {E:Value->Shared->Prop} {s:Shared}
noncomputable def eP (h:Heap) (ks:List (List Key)) (p:Keyed):Prop:=∃k∈ks,oB h p.1 k
theorem kJ {ks:List (List Key)} (ht:∀k∈ks,eC k):Od (tuples' true) (eP s.heap ks) (jJ s.heap ks) (model prog w) A E s:=λst x y Q hk hx hy h=>by
 obtain⟨k,k1,k2⟩:=hx;obtain⟨l,l1,l2⟩:=hy;rw[lt'_eq];refine wpS_bind (wpS_get ?_);rw[hk];refine wpS_bind (wpS_lift (wpAny_attempt (WI k2 l2 ⟨rfl,?_⟩)));refine wpS_pure ?_;have e:decide (jJ s.heap ks x < jJ s.heap ks y)=DC k l:=by
  unfold jJ;rw[EH k2,EH l2,GH ht k1 l1];exact decide_eq_decide.mpr Int.ofNat_lt
 rw[e] at h;exact h
theorem kZ {a:Addr} {vs:List Value} {ks:List (List Key)} {n:Nat} {P:Fin->Shared->Prop} {F:Value->List Key->Prop} (hF:∀v k,F v k->oB s.heap v k) (ho:s.heap.get? a=some (seqObj "list" vs.toArray n)) (h2:2<=vs.length) (h64:vs.length<=sizeLine) (ht:Paired F vs ks) (nd:ks.Nodup)
  (h:∀(out:List Value) (ks':List (List Key)),Paired F out ks'->ks'.Perm ks->ks'.Pairwise (DC · ·=true)->P (.done (.ret .none)) {s with heap:=sortedHeap s.heap a vs out.toArray}):wpAny (model prog w) A (Builtin.«list.sort» ⟨[.ref a],[]⟩) P E s:=by
 rw[list_sort_plain];have ha:a < s.heap.objs.size:=Heap.lt_size ho;refine wpAny_bind (listItems_at ho rfl ?_);refine wpAny_bind (listUpdate_at ho rfl ?_ (hsz:=by rw[List.size_toArray];exact h64) (hsz2:=Nat.zero_le _));obtain⟨e1,ho1⟩:∃e1,(s.heap.update a (Obj.mapSeq λ_=> #[])).get? a=some (seqObj "list" #[] e1):=⟨_,get?_update_seq ho (λ_=> #[])⟩
 refine wpAny_bind (seqEpoch_at ho1 rfl ?_);refine wpAny_bind (wpAny_newTuple ?_ (by exact h64));refine wpAny_bind (wpAny_newList ?_);refine wpAny_holding ?_;have ho6:(((s.heap.update a (Obj.mapSeq λ_=> #[])).push (seqObj "tuple" vs.toArray 0)).push (seqObj "list" #[] 0)).get? a=some (seqObj "list" #[] e1):=by
  rw[Heap.get?_push_ne _ _ _ (by rw[size_push',Heap.size_update];exact Nat.ne_of_lt (Nat.lt_succ_of_lt ha)),Heap.get?_push_ne _ _ _ (by rw[Heap.size_update];exact Nat.ne_of_lt ha)];exact ho1
 show wpAny (model prog w) A _ P E {s with heap:=((s.heap.update a (Obj.mapSeq λ_=> #[])).push (seqObj "tuple" vs.toArray 0)).push (seqObj "list" #[] 0)};dsimp only;have hsz:¬vs.toArray.size < 2:=by rw[List.size_toArray];omega
 rw[if_neg hsz,if_neg hsz];have kp:∀y o,s.heap.get? y=some o->o.cls=.type "tuple"->(((s.heap.update a (Obj.mapSeq λ_=> #[])).push (seqObj "tuple" vs.toArray 0)).push (seqObj "list" #[] 0)).get? y=some o:=λy o hy hc=>by
  refine Heap.get?_push_of_some _ (Heap.get?_push_of_some _ ?_);rw[Heap.get?_update_ne _ _ _ _ (λz=>by rw[z,ho] at hy;cases hy;exact absurd (Value.type.inj hc) (by decide))];exact hy
 have ht6:Paired (oB (((s.heap.update a (Obj.mapSeq λ_=> #[])).push (seqObj "tuple" vs.toArray 0)).push (seqObj "list" #[] 0))) vs ks:=Paired.mapP ht λ_ _ q=>SO (hF _ _ q) kp;generalize hh6:((s.heap.update a (Obj.mapSeq λ_=> #[])).push (seqObj "tuple" vs.toArray 0)).push (seqObj "list" #[] 0)=h6 at *;obtain⟨fs,f1,f2,f3⟩:=mV ht6;refine wpAny_bind (PySem.W.kat_kind (fs:=fs) (T:=.type "str") f1 ⋯ (λv hv=>?_) (by decide) ?_)
 ·obtain⟨s9,t9,rfl⟩:=f3 v hv;intro A' Q' E' s' _ q';exact wpAny_pure q'
 rw[show (Value.type "str" != Value.type "tuple")=true by decide];have htr:∀k∈ks,eC k:=λk hk=>by
  have:∀{vs:List Value} {ks:List (List Key)},Paired (oB h6) vs ks->∀k∈ks,eC k:=λhp=>by
   induction hp with
   |nil=>intro k hk;cases hk
   |cons r _ ih=>
    intro k hk;rcases List.mem_cons.mp hk with rfl|hk
    ·exact r.tri
    ·exact ih k hk
  exact this ht6 k hk
 have hmv:∀v∈vs,∃k,k∈ks/\oB h6 v k/\F v k:=λv hv=>by
  obtain⟨i,hi,e⟩:=List.getElem_of_mem hv;have e1:vs[i]?=some v:=by rw[List.getElem?_eq_getElem hi,e]
  obtain⟨k,a1,a2⟩:=RO ht6 e1;obtain⟨l,b1,b2⟩:=RO ht e1;rw[a1] at b1;cases b1;exact⟨k,List.mem_of_getElem? a1,a2,b2⟩
 have hky:vs.map (kF h6)=ks:=by
  have:∀{vs:List Value} {ks:List (List Key)},Paired (oB h6) vs ks->vs.map (kF h6)=ks:=λhp=>by
   induction hp with
   |nil=>rfl
   |cons r _ ih=>rw[List.map_cons,ih,EH r]
  exact this ht6
 have hok:KB (eP h6 ks) (pairsOf vs):=λp hp=>by
  rw[pairsOf_toList] at hp;obtain⟨k,k1,k2,_⟩:=hmv p.1 (mem_zip_self hp).2;exact⟨k,k1,k2⟩
 refine wpAny_bind (wpAny_mono (jZ (s:={s with heap:=h6}) (A:=A) (E:=E) (a₀:=pairsOf vs) (kd:=tuples' true) (Ok:=eP h6 ks) (rk:=jJ h6 ks) (st:=SortSt.mk' (tuples' true) (vs.toArray.zip vs.toArray) #[] 7 none)
   (Q:=λ_ st'=>(arrOf st').Perm (pairsOf vs)/\failedOf st'=none/\BC (jJ h6 ks) (arrOf st') 0 (pairsOf vs).size)
   (kJ (s:={s with heap:=h6}) htr) hok ⟨Array.Perm.refl _,rfl,rfl,rfl⟩ (by rw[pairsOf_size];omega) λst' a1 a2 a3=>⟨a1,a2,a3⟩) ?_ λ_ _ e=>e)
 rintro⟨⟨⟩,st'⟩ s' ⟨rfl,hp,hf,hs⟩;dsimp only;refine wpAny_bind (seqEpoch_at ho6 rfl ?_);have hl:(arrOf st').toList.Perm (vs.zip vs):=by rw[<-pairsOf_toList];exact Array.perm_iff_toList_perm.mp hp
 have hmem:∀p,p∈(arrOf st').toList->p.1=p.2/\p.1∈vs:=λp hp'=>mem_zip_self (hl.mem_iff.mp hp');have hsz2:(arrOf st').size=vs.length:=hp.size_eq.trans (pairsOf_size _);refine wpAny_bind (listUpdate_at ho6 rfl ?_ (hsz2:=by refine Nat.le_trans (Nat.le_of_eq ((Array.size_map ..).trans hsz2)) ?_;exact Nat.le_succ_of_le h64));rw[hf];simp only[bne_self_eq_false,Bool.false_eq_true,if_false];refine wpAny_pure ?_;have hperm:((arrOf st').toList.map λp=>kF h6 p.1).Perm ks:=by
  have h1:=hl.map (λp=>kF h6 p.1);have e2:(vs.zip vs).map (λp=>kF h6 p.1)=ks:=by
   have:(vs.zip vs).map (λp=>kF h6 p.1)=((vs.zip vs).map Prod.fst).map (kF h6):=by rw[List.map_map];rfl
   rw[this,List.map_fst_zip (Nat.le_refl _),hky]
  rwa[e2] at h1
 have:=h ((arrOf st').map (·.2)).toList ((arrOf st').toList.map λp=>kF h6 p.1) ?_ hperm ?_
 ·rw[<-hh6];exact this
 ·rw[Array.toList_map];clear hs hp hsz2 hl hperm;generalize (arrOf st').toList=l at *
  induction l with
  |nil=>exact .nil
  |cons p l ih=>
   refine .cons ?_ (ih λq hq=>hmem q (List.mem_cons_of_mem _ hq));obtain⟨e1,e2⟩:=hmem p (List.mem_cons_self ..);obtain⟨k,_,k2,k3⟩:=hmv p.1 e2;show F p.2 (kF h6 p.1);rw[<-e1,EH k2];exact k3
 ·rw[List.pairwise_map,List.pairwise_iff_getElem];intro i j hi hj hij;have hj2:j < (pairsOf vs).size:=by rw[Array.length_toList,hsz2] at hj;rw[pairsOf_size];exact hj
  have hle:=hs i j (Nat.le_of_lt hij) hj2;rw[Nat.zero_add,Nat.zero_add,YC (show (arrOf st')[i]?=some (arrOf st').toList[i] by rw[<-Array.getElem?_toList];exact List.getElem?_eq_getElem hi),YC (show (arrOf st')[j]?=some (arrOf st').toList[j] by rw[<-Array.getElem?_toList];exact List.getElem?_eq_getElem hj)] at hle;obtain⟨_,m1⟩:=hmem _ (List.getElem_mem hi);obtain⟨_,m2⟩:=hmem _ (List.getElem_mem hj);obtain⟨k,k1,k2,_⟩:=hmv _ m1;obtain⟨l,l1,l2,_⟩:=hmv _ m2;unfold jJ at hle;rw[EH k2,EH l2] at hle ⊢;have nd2:((arrOf st').toList.map λp=>kF h6 p.1).Nodup:=hperm.nodup_iff.mpr nd;have ne:k≠l:=by
   have:=List.pairwise_iff_getElem.mp nd2 i j (by rw[List.length_map];exact hi) (by rw[List.length_map];exact hj) hij;rw[List.getElem_map,List.getElem_map,EH k2,EH l2] at this;exact this
  rcases PO (htr k k1) (htr l l1) ne with h1|h1
  ·exact h1
  ·have h2:=GH htr l1 k1;rw[h1] at h2;have:=of_decide_eq_true h2.symm;omega
theorem list_sort_trisB {a:Addr} {vs:List Value} {ks:List (List Key)} {n:Nat} {P:Fin->Shared->Prop} {F:Value->List Key->Prop} (hF:∀v k,F v k->oB s.heap v k) (ho:s.heap.get? a=some (seqObj "list" vs.toArray n)) (h64:vs.length<=sizeLine) (ht:Paired F vs ks) (nd:ks.Nodup)
  (h:∀(out:List Value) (ks':List (List Key)),Paired F out ks'->ks'.Perm ks->ks'.Pairwise (DC · ·=true)->P (.done (.ret .none)) {s with heap:=sortedHeap s.heap a vs out.toArray}):wpAny (model prog w) A (Builtin.«list.sort» ⟨[.ref a],[]⟩) P E s:=by
 by_cases h2:2<=vs.length
 ·exact kZ hF ho h2 h64 ht nd h
 ·refine KY ho ⋯ (h vs ks ht (List.Perm.refl _) ?_);have hl:=Paired.length ht
  match ks,hl with
  |[],_=>exact .nil
  |[k],_=>exact List.pairwise_singleton _ _
  |_::_::_,hl=>rw[List.length_cons,List.length_cons] at hl;omega
end
end TS
theorem lZ {X:Cx} (hc:X.calm=true):lC X (.builtin "sorted") (λxs H Q=>∃p kvs,xs=[.ref p]/\H p=some (.dT kvs)/\(∀kv∈kvs,eC kv.1)/\∀l us ks,H l=none->fE H ks us->ks.Perm (kvs.map (·.1))->ks.Pairwise (DC · ·=true)->Q (.ref l) (upd H l (.lst us))):=by
 intro pins s σ H xs us Q I r h;obtain⟨p,kvs,rfl,hp,htri,q⟩:=h;obtain⟨u,rfl,ru⟩:=AD r;cases ru;obtain⟨z,nd,ys,rel,o,es,ep,e0,ec,ed,he,hnd⟩:=eK I.hok hp;have hsz:=size_of_entries he;have hlen:=Paired.length rel;refine Calls.call_function_entry kind_sorted plain_sorted entry_sorted (args_sorted1 _) ?_;unfold Builtin.«sorted»;refine wpAny_bind (m:=checkCount "sorted" 1 1 _) (wpAny_pure ?_);refine wpAny_bind (PySem.W.kdu_collect (A:=X.A.in1) (wY (es:=es) (ep:=ep) nd) (I.ok.hd hc) ⟨o,e0,ec,ed⟩ (by rw[hsz,<-hlen];exact z) λh' tk acc hk hacc=>?_);have ea:acc.toList=ys.map λy=>Value.ref y.2.1:=by
  refine List.ext_getElem? λj=>?_;rw[List.getElem?_map];by_cases c:j < es.size
  ·have hj:j < acc.toList.length:=by rw[Array.length_toList,hacc.1];exact c
   obtain⟨_,e⟩:=hacc.2 j _ (by rw[<-Array.getElem?_toList];exact List.getElem?_eq_getElem hj);rw[List.getElem?_eq_getElem hj,e];have e3:=entry_at he j;rw[Array.getElem?_eq_getElem c,List.getElem?_eq_getElem ⋯] at e3;have e3:=Option.some.inj e3;rw[e3,List.getElem?_eq_getElem ⋯]
   rfl
  ·rw[List.getElem?_eq_none (by rw[Array.length_toList,hacc.1];omega),List.getElem?_eq_none ⋯]
   rfl
 have hal:acc.toList.length=kvs.length:=by rw[ea,List.length_map];exact hlen.symm
 have hP:Paired (λv k=>eC k/\∃a,v=Value.ref a/\H a=some (.tup (k.map kV))) acc.toList (kvs.map (·.1)):=by
  rw[ea];clear ea hal he hnd hsz hlen q hp z
  induction rel with
  |nil=>exact .nil
  |@cons x y _ _ r t ih=>exact .cons ⟨htri x (List.mem_cons_self ..),_,rfl,r.2.1⟩ (ih λkv hkv=>htri kv (List.mem_cons_of_mem _ hkv))
 have hndk:(kvs.map (·.1)).Nodup:=by
  have:kvs.map (·.1)=ys.map (·.1):=by
   clear ea hal he hnd hsz hlen q hp hP htri z
   induction rel with
   |nil=>rfl
   |cons r t ih=>rw[List.map_cons,List.map_cons,ih,r.1]
  rw[this];exact hnd.2
 have I1:jA X pins σ H {s with heap:=h',toks:=tk}:=I.kept (t':=tk) hk;refine wpAny_bind (wpAny_newList ?_ (by rw[hal];exact z));have hoL:(h'.push (seqObj "list" acc.toList.toArray 0)).get? h'.objs.size=some (seqObj "list" acc.toList.toArray 0):=Heap.get?_push_size _ rfl;refine wpAny_bind (wpAny_holding (wpAny_call_entry slot_list_sort ⟨_,hoL,rfl⟩ entry_list_sort (TS.list_sort_trisB (F:=λv k=>eC k/\∃a,v=Value.ref a/\H a=some (.tup (k.map kV))) (λv k ⟨h1,a,e,h2⟩=>?_) hoL (by rw[hal];exact z) hP hndk λout ks o1 o2 o3=>⟨_,rfl,?_⟩) (args_list_sort _)))
 ·subst e;exact SO (nV I1.hok h2 h1) λy o hy _=>Heap.get?_push_of_some _ hy
 obtain⟨e,he2⟩:=sortedHeap_at (out:=out.toArray) hoL;obtain⟨us,v1,v2⟩:=UO o1;have hul:=v1.length;have hol:out.length=kvs.length:=by rw[Paired.length o1,o2.length_eq,List.length_map]
 refine wpAny_pure ⟨_,rfl,⟨.ref h'.objs.size,_,I1.laid (t':=tk) (λb o hb=>?_) (Nat.le_refl _) (show CA X.prog X.w _ _ _ (.lst us) from ⟨by rw[hul,hol];exact z,out,e,v1,he2⟩),rfl,q _ us ks (I1.hok.fresh (Nat.le_refl _)) v2 o2 o3⟩⟩;have hlt:=Heap.lt_size hb;rw[sortedHeap_old (Nat.ne_of_lt hlt) (by rw[size_push'];exact Nat.lt_succ_of_lt hlt)];exact Heap.get?_push_of_some _ hb
theorem PV {X:Cx} (hc:X.calm=true):lC X (.builtin "sorted") (λxs H Q=>∃p vs ks0,xs=[.ref p]/\kA X.K H p vs/\fE H ks0 vs/\ks0.Nodup/\(∀k∈ks0,eC k)/\∀l us ks,H l=none->fE H ks us->ks.Perm ks0->ks.Pairwise (DC · ·=true)->Q (.ref l) (upd H l (.lst us))):=by
 intro pins s σ H xs us Q I r h;obtain⟨p,vs,ks0,rfl,hq,hk0,hnd,htri,q⟩:=h;obtain⟨u,rfl,ru⟩:=AD r;cases ru;obtain⟨its,r',pl,hz⟩:=I.list hq;have hlen:=r'.length;refine Calls.call_function_entry kind_sorted plain_sorted entry_sorted (args_sorted1 _) ?_;unfold Builtin.«sorted»;refine wpAny_bind (m:=checkCount "sorted" 1 1 _) (wpAny_pure ?_);refine wpAny_bind (collect_list pl.isList ?_ ⋯);have hk:∀b o,s.heap.get? b=some o->((s.heap.push (seqObj "list" #[] 0)).update s.heap.objs.size (Obj.mapSeq λx=>x++its.toArray)).get? b=some o:=λb o hb=>by
  rw[Heap.get?_update_ne _ _ _ _ (Nat.ne_of_lt (Heap.lt_size hb))];exact Heap.get?_push_of_some _ hb
 generalize (s.heap.push (seqObj "list" #[] 0)).update s.heap.objs.size (Obj.mapSeq λx=>x++its.toArray)=h' at *;have hP:=pV r' hk0 htri;have I1:jA X pins σ H {s with heap:=h'}:=I.kept (t':=s.toks) hk;refine wpAny_bind (wpAny_newList ?_ (by rw[<-hlen];exact hz));have hoL:(h'.push (seqObj "list" its.toArray 0)).get? h'.objs.size=some (seqObj "list" its.toArray 0):=Heap.get?_push_size _ rfl;refine wpAny_bind (wpAny_holding (wpAny_call_entry slot_list_sort ⟨_,hoL,rfl⟩ entry_list_sort (TS.list_sort_trisB (F:=λv k=>eC k/\∃a,v=Value.ref a/\H a=some (.tup (k.map kV))) (λv k ⟨h1,a,e,h2⟩=>?_) hoL ⋯ hP hnd λout ks o1 o2 o3=>⟨_,rfl,?_⟩) (args_list_sort _)))
 ·subst e;exact SO (nV I1.hok h2 h1) λy o hy _=>Heap.get?_push_of_some _ hy
 obtain⟨e,he2⟩:=sortedHeap_at (out:=out.toArray) hoL;obtain⟨us,v1,v2⟩:=UO o1;have hul:=v1.length;have hol:out.length=its.length:=by rw[Paired.length o1,o2.length_eq,<-Paired.length hP]
 refine wpAny_pure ⟨_,rfl,⟨.ref h'.objs.size,_,I1.laid (t':=s.toks) (λb o hb=>?_) (Nat.le_refl _) (show CA X.prog X.w _ _ _ (.lst us) from ⟨by rw[hul,hol,<-hlen];exact hz,out,e,v1,he2⟩),rfl,q _ us ks (I1.hok.fresh (Nat.le_refl _)) v2 o2 o3⟩⟩;have hlt:=Heap.lt_size hb;rw[sortedHeap_old (Nat.ne_of_lt hlt) (by rw[size_push'];exact Nat.lt_succ_of_lt hlt)];exact Heap.get?_push_of_some _ hb
theorem mZ {X:Cx} {K:PySem.W.Frag} {n:Nat} (hK:X.K=K) (hu:X.A.units+n+2 < cLine):OC X (compareOp .Eq) (CG K n):=by subst hK;exact JU hu
end L2
set_option hygiene false in
local macro_rules| `(tactic|walk_at "wp")=> `(tactic|simp only[↓L2.JI, ↓L2.sL, ↓L2.tL, ↓L2.KI,L2.MK,L2.tNext,L2.tG,L2.yD,L2.NK,L2.RG,L2.OK,L2.UT,L2.ZG,L2.tB,L2.pI,L2.lI,L2.CD,L2.tC,L2.rI,L2.uG,L2.HK,L2.QT,L2.IK,L2.OG,L2.QG,L2.FF,L2.BE,L2.HF,L2.pO,L2.aH,L2.tNil,L2.eL,L2.dL,L2.xG,L2.aF,L2.rL,L2.rU,L2.bL,L2.cL,L2.KF,L2.rEq,L2.rNe,L2.nC,L2.UK,L2.WK,L2.vG,L2.BI,L2.jL,L2.CI,L2.DI,L2.EY,L2.fY,L2.gY,L2.iY,L2.dY,L2.eY,L2.OA,L2.gX,L2.HO.ins.injEq,L2.rCat,L2.jY,L2.kY,L2.jH,L2.XG,L2.WG,L2.nH,L2.QK,L2.gNil,L2.SG,L2.tU,L2.rAppend,L2.RK,L2.rSetL,L2.NF,L2.tYes,Option.join_some,Option.join_none,PySem.sizeLine_eq,Nat.reduceLeDiff,eq_self,decide_eq_true_eq,
 List.map_cons,List.map_nil,List.length_cons,List.length_nil,List.cons_append,List.nil_append,List.append_nil,List.replicate,Nat.reduceSub,Nat.reduceAdd,List.getElem?_cons_zero,List.getElem?_cons_succ,List.set_cons_zero,List.set_cons_succ,
 Option.some.injEq,List.cons.injEq,L2.V.int.injEq,L2.V.bl.injEq,L2.V.ref.injEq,L2.V.ty.injEq,L2.V.str.injEq,exists_eq_left,exists_eq_left',exists_and_left,exists_eq',exists_const,and_assoc,and_true,true_and, ↓reduceIte,Int.reduceLE,Int.reduceLT,Nat.reducePow,Int.reducePow,Int.reduceNeg,L2.GO,Nat.reduceLT,Int.reduceToNat,Int.reduceAdd,Int.reduceMul,Int.reduceSub,true_or,or_true,decide_true,decide_false])
noncomputable def PySem.W.Fast.tw11195492713524011629:PySem.Program:=PySem.Challenge.pw_frameland_k66_folded_sheets
theorem PySem.W.Fast.te11195492713524011629:PySem.Challenge.pw_frameland_k66_folded_sheets=PySem.W.Fast.tw11195492713524011629:=rfl
namespace Pf
open PySem L2
noncomputable def HA (i:Nat):Stmt:=PySem.Challenge.pw_frameland_k66_folded_sheets.main.body.getD i (.Pass ⟨0,0,0,0⟩)
noncomputable abbrev fP:Stmt:=HA 5
theorem zN:fA ["marks","hand","passed","place"] ["marks","hand"] (bA fP):=⟨rfl,rfl,rfl,∅,rfl,∅,∅⟩
noncomputable abbrev gP:Stmt:=cA (HA 7) 0
theorem nZ:fA ["self","boxes","holder"] ["self","boxes","holder"] (bA gP):=⟨rfl,rfl,rfl,∅,rfl,∅,∅⟩
noncomputable abbrev iP:Stmt:=cA (HA 7) 1
theorem oZ:fA ["self"] ["self"] (bA iP):=⟨rfl,rfl,rfl,∅,rfl,∅,∅⟩
noncomputable abbrev jP:Stmt:=cA (HA 7) 2
theorem pZ:fA ["self"] ["self"] (bA jP):=⟨rfl,rfl,rfl,∅,rfl,∅,∅⟩
noncomputable abbrev kP:Stmt:=cA (HA 8) 0
theorem qZ:fA ["self","many"] ["self","many"] (bA kP):=⟨rfl,rfl,rfl,∅,rfl,∅,∅⟩
noncomputable abbrev lP:Stmt:=cA (HA 8) 1
theorem mP:fA ["self","place","sheet"] ["self"] (bA lP):=⟨rfl,rfl,rfl,∅,rfl,∅,∅⟩
noncomputable abbrev nP:Stmt:=cA (HA 8) 2
theorem QV:fA ["self","twin"] ["self"] (bA nP):=⟨rfl,rfl,rfl,∅,rfl,∅,∅⟩
noncomputable abbrev oP:Stmt:=cA (HA 8) 3
theorem rZ:fA ["self"] ["self"] (bA oP):=⟨rfl,rfl,rfl,∅,rfl,∅,∅⟩
noncomputable abbrev pP:Stmt:=cA (HA 10) 0
theorem sZ:fA ["self","frames","slots","size"] ["self","frames","slots","size"] (bA pP):=⟨rfl,rfl,rfl,∅,rfl,∅,∅⟩
noncomputable abbrev qP:Stmt:=cA (HA 10) 1
theorem RV:fA ["self","sheet","holder","marks","way"] ["self","sheet","holder","marks"] (bA qP):=⟨rfl,rfl,rfl,∅,rfl,∅,∅⟩
noncomputable abbrev rP:Stmt:=cA (HA 10) 2
theorem sP:fA ["self","slot","marks","coming","way"] ["self","slot","marks"] (bA rP):=⟨rfl,rfl,rfl,∅,rfl,∅,∅⟩
noncomputable abbrev tP:Stmt:=cA (HA 10) 3
theorem SV:fA ["self","spot","holder","sheet"] ["self","spot","holder"] (bA tP):=⟨rfl,rfl,rfl,∅,rfl,∅,∅⟩
noncomputable abbrev uP:Stmt:=cA (HA 10) 5
theorem TV:fA ["self","spot","sheet"] ["self","spot"] (bA uP):=⟨rfl,rfl,rfl,∅,rfl,∅,∅⟩
noncomputable abbrev vP:Stmt:=cA (HA 10) 7
theorem UV:fA ["self","spot","sheet"] ["self","spot"] (bA vP):=⟨rfl,rfl,rfl,∅,rfl,∅,∅⟩
noncomputable abbrev wP:Stmt:=cA (HA 10) 10
theorem oK:fA ["self","first_by_boxes","gone","spot","sheet","first"] ["self"] (bA wP):=⟨rfl,rfl,rfl,∅,rfl,∅,∅⟩
noncomputable abbrev xP:Stmt:=cA (HA 10) 11
theorem tZ:fA ["self"] ["self"] (bA xP):=⟨rfl,rfl,rfl,∅,rfl,∅,∅⟩
noncomputable abbrev yP:Stmt:=cA (HA 10) 12
theorem uZ:fA ["self"] ["self"] (bA yP):=⟨rfl,rfl,rfl,∅,rfl,∅,∅⟩
noncomputable abbrev zP:Stmt:=cA (HA 10) 13
theorem vZ:fA ["self"] ["self"] (bA zP):=⟨rfl,rfl,rfl,∅,rfl,∅,∅⟩
noncomputable abbrev BP:Stmt:=cA (HA 10) 14
theorem AN:fA ["self","told","frame","sheet"] ["self"] (bA BP):=⟨rfl,rfl,rfl,∅,rfl,∅,∅⟩
noncomputable abbrev CP:Stmt:=cA (HA 10) 15
theorem wZ:fA ["self"] ["self"] (bA CP):=⟨rfl,rfl,rfl,∅,rfl,∅,∅⟩
noncomputable abbrev DP:Stmt:=cA (HA 10) 16
theorem xZ:fA ["self"] ["self"] (bA DP):=⟨rfl,rfl,rfl,∅,rfl,∅,∅⟩
noncomputable abbrev FP:Stmt:=cA (HA 10) 17
theorem VV:fA ["self","spot","spots"] ["self","spot"] (bA FP):=⟨rfl,rfl,rfl,∅,rfl,∅,∅⟩
noncomputable abbrev GP:Stmt:=cA (HA 10) 18
theorem WV:fA ["self","frames"] ["self"] (bA GP):=⟨rfl,rfl,rfl,∅,rfl,∅,∅⟩
noncomputable abbrev HP:Stmt:=cA (HA 10) 19
theorem IP:fA ["self","slot","sheet","frame"] ["self","slot"] (bA HP):=⟨rfl,rfl,rfl,∅,rfl,∅,∅⟩
noncomputable abbrev JP:Stmt:=cA (HA 10) 20
theorem XV:fA ["self","spot","other","holder"] ["self","spot","other"] (bA JP):=⟨rfl,rfl,rfl,∅,rfl,∅,∅⟩
noncomputable abbrev KP:Stmt:=cA (HA 10) 21
theorem yZ:fA ["self","spot"] ["self","spot"] (bA KP):=⟨rfl,rfl,rfl,∅,rfl,∅,∅⟩
noncomputable abbrev LP:Stmt:=cA (HA 10) 22
theorem YV:fA ["self","frame","slot"] ["self","frame"] (bA LP):=⟨rfl,rfl,rfl,∅,rfl,∅,∅⟩
noncomputable abbrev MP:Stmt:=cA (HA 10) 23
theorem NP:fA ["self","coming_from","marks","frame","choice"] ["self","coming_from","marks"] (bA MP):=⟨rfl,rfl,rfl,∅,rfl,∅,∅⟩
noncomputable abbrev OP:Stmt:=cA (HA 10) 24
theorem PP:fA ["self","frame","coming_from","sheet","slot"] ["self","frame","coming_from"] (bA OP):=⟨rfl,rfl,rfl,∅,rfl,∅,∅⟩
noncomputable abbrev QP:Stmt:=cA (HA 10) 25
theorem RP:fA ["self","frame","coming_from","empty","twin"] ["self","frame","coming_from"] (bA QP):=⟨rfl,rfl,rfl,∅,rfl,∅,∅⟩
noncomputable abbrev UP:Stmt:=HA 12
theorem zZ:fA ["_law_script","_law_k"] ["_law_script","_law_k"] (bA UP):=⟨rfl,rfl,rfl,∅,rfl,∅,∅⟩
noncomputable abbrev VP:Stmt:=HA 13
theorem WP:fA ["_law_found","_law_due","_law_k"] ["_law_found","_law_due"] (bA VP):=⟨rfl,rfl,rfl,∅,rfl,∅,∅⟩
noncomputable abbrev ZP:Stmt:=HA 14
theorem lF:fA ["_law_plain","_law_marks","_law_slot","_law_frames","_law_slots","_law_k","_law_passed","_law_at_here","_law_goal"] ["_law_plain","_law_marks","_law_slot"] (bA ZP):=⟨rfl,rfl,rfl,∅,rfl,∅,∅⟩
noncomputable abbrev aQ:Stmt:=HA 15
theorem bQ:fA ["_law_found","_law_row","_law_due","_law_one"] ["_law_found","_law_row"] (bA aQ):=⟨rfl,rfl,rfl,∅,rfl,∅,∅⟩
noncomputable abbrev cQ:Stmt:=HA 16
theorem AZ:fA ["_law_plain","_law_spot"] ["_law_plain","_law_spot"] (bA cQ):=⟨rfl,rfl,rfl,∅,rfl,∅,∅⟩
noncomputable abbrev dQ:Stmt:=HA 17
theorem ZV:fA ["_law_plain","_law_spot","_law_one"] ["_law_plain","_law_spot"] (bA dQ):=⟨rfl,rfl,rfl,∅,rfl,∅,∅⟩
noncomputable abbrev eQ:Stmt:=HA 18
theorem lJ:fA ["_law_plain","_law_spots","_law_firsts","_law_moves","_law_spot","_law_one","_law_same"] ["_law_plain"] (bA eQ):=⟨rfl,rfl,rfl,∅,rfl,∅,∅⟩
noncomputable abbrev fQ:Stmt:=HA 19
theorem aW:fA ["_law_sheets","_law_plain","_law_sheet","_law_holder","_law_marks","_law_place"] ["_law_sheets","_law_plain","_law_sheet","_law_holder","_law_marks"] (bA fQ):=⟨rfl,rfl,rfl,∅,rfl,∅,∅⟩
noncomputable abbrev gQ:Stmt:=HA 20
theorem NL:fA ["_law_sheets","_law_plain","_law_slot","_law_marks","_law_coming","_law_got","_law_twin"] ["_law_sheets","_law_plain","_law_slot","_law_marks"] (bA gQ):=⟨rfl,rfl,rfl,∅,rfl,∅,∅⟩
noncomputable abbrev iQ:Stmt:=HA 21
theorem aG:fA ["_law_sheets","_law_plain","_law_script","_law_k","_law_cell_here","_law_number","_law_marks","_law_sheet","_law_words","_law_place","_law_more","_law_some"] ["_law_sheets","_law_plain","_law_script","_law_k"] (bA iQ):=⟨rfl,rfl,rfl,∅,rfl,∅,∅⟩
noncomputable abbrev jQ:Stmt:=HA 22
theorem OL:fA ["_law_sheets","_law_plain","_law_ahead","_law_due","_law_many"] ["_law_sheets","_law_plain"] (bA jQ):=⟨rfl,rfl,rfl,∅,rfl,∅,∅⟩
noncomputable abbrev BN:Stmt:=HA 23
theorem bG:fA ["_law_script","_law_frames","_law_slots","_law_sheets","_law_plain","_law_many","_law_k","_law_full"] ["_law_script"] (bA BN):=⟨rfl,rfl,rfl,∅,rfl,∅,∅⟩
set_option genInjectivity false in
structure UD where
 Ac:Addr
 Ad:Addr
 Aa:Addr
 Ba:Addr
 A4:Addr
structure MB (K:W.Frag) (mg:Str->Option Value) (A:UD):Prop where
 Gg:mg "any"=none
 Ej:mg "bool"=none
 Db:mg "enumerate"=none
 Fq:mg "int"=none
 Al:mg "isinstance"=none
 Aj:mg "len"=none
 Bd:mg "list"=none
 Ft:mg "max"=none
 Ao:mg "range"=none
 Dc:mg "sorted"=none
 Fu:mg "str"=none
 Dq:mg "tuple"=none
 Fv:DE K mg "swept" "swept" fP ["marks","hand"] []
 E6:DE K mg "_law_cell" "_law_cell" UP ["_law_script","_law_k"] []
 Ek:DE K mg "_law_like" "_law_like" VP ["_law_found","_law_due"] []
 Fw:DE K mg "_law_out" "_law_out" ZP ["_law_plain","_law_marks","_law_slot"] []
 E7:DE K mg "_law_told" "_law_told" aQ ["_law_found","_law_row"] []
 F7:DE K mg "_law_at" "_law_at" cQ ["_law_plain","_law_spot"] []
 E8:DE K mg "_law_gone" "_law_gone" dQ ["_law_plain","_law_spot"] []
 Ew:DE K mg "_law_folded" "_law_folded" eQ ["_law_plain"] []
 Ez:DE K mg "_law_fresh" "_law_fresh" fQ ["_law_sheets","_law_plain","_law_sheet","_law_holder","_law_marks"] []
 E9:DE K mg "_law_back" "_law_back" gQ ["_law_sheets","_law_plain","_law_slot","_law_marks"] []
 Fa:DE K mg "_law_made" "_law_made" iQ ["_law_sheets","_law_plain","_law_script","_law_k"] []
 E0:DE K mg "_law_right" "_law_right" jQ ["_law_sheets","_law_plain"] []
 An:rE K A.Ac
 Au:dB K A.Ac "boxes"
 Av:dB K A.Ac "holders"
 El:cF K mg "Sheet" A.Ac "Sheet.__init__" gP ["self","boxes","holder"] []
 Bh:sB K A.Ac "told_holders" "Sheet.told_holders" iP ["self"] []
 Co:sB K A.Ac "is_banked" "Sheet.is_banked" jP ["self"] []
 Ae:rE K A.Ad
 Ag:dB K A.Ad "lying"
 Ai:dB K A.Ad "twins"
 Em:cF K mg "Spots" A.Ad "Spots.__init__" kP ["self","many"] []
 Bo:sB K A.Ad "first_empty" "Spots.first_empty" lP ["self"] []
 B1:sB K A.Ad "first_twin" "Spots.first_twin" nP ["self"] []
 B3:sB K A.Ad "live_count" "Spots.live_count" oP ["self"] []
 Ab:rE K A.Aa
 Dr:dB K A.Aa "size"
 Af:dB K A.Aa "frames"
 Ah:dB K A.Aa "slots"
 A0:dB K A.Aa "hand"
 As:dB K A.Aa "gone_out"
 Aq:dB K A.Aa "gone_astray"
 Ar:dB K A.Aa "come_back"
 D5:cF K mg "Sheets" A.Aa "Sheets.__init__" pP ["self","frames","slots","size"] []
 Ds:sB K A.Aa "fresh" "Sheets.fresh" qP ["self","sheet","holder","marks"] []
 D6:sB K A.Aa "back" "Sheets.back" rP ["self","slot","marks"] []
 D7:sB K A.Aa "hold" "Sheets.hold" tP ["self","spot","holder"] []
 Bp:sB K A.Aa "holders_of" "Sheets.holders_of" uP ["self","spot"] []
 Cp:sB K A.Aa "sheet_at" "Sheets.sheet_at" vP ["self","spot"] []
 Ea:sB K A.Aa "fold" "Sheets.fold" wP ["self"] []
 Bi:sB K A.Aa "live_sheets" "Sheets.live_sheets" xP ["self"] []
 Dd:sB K A.Aa "is_full" "Sheets.is_full" yP ["self"] []
 De:sB K A.Aa "hand_at" "Sheets.hand_at" zP ["self"] []
 Bj:sB K A.Aa "told_frames" "Sheets.told_frames" BP ["self"] []
 Bq:sB K A.Aa "told_slots" "Sheets.told_slots" CP ["self"] []
 Dt:sB K A.Aa "moved" "Sheets.moved" DP ["self"] []
 Cq:sB K A.Aa "lying_at" "Sheets.lying_at" FP ["self","spot"] []
 B4:sB K A.Aa "all_spots" "Sheets.all_spots" GP ["self"] []
 B5:sB K A.Aa "told_slot" "Sheets.told_slot" HP ["self","slot"] []
 B6:sB K A.Aa "hand_over" "Sheets.hand_over" JP ["self","spot","other"] []
 Br:sB K A.Aa "make_empty" "Sheets.make_empty" KP ["self","spot"] []
 B7:sB K A.Aa "lose_twin" "Sheets.lose_twin" LP ["self","frame"] []
 B8:sB K A.Aa "frame_for" "Sheets.frame_for" MP ["self","coming_from","marks"] []
 Df:sB K A.Aa "put_out" "Sheets.put_out" OP ["self","frame","coming_from"] []
 Cr:sB K A.Aa "slot_for" "Sheets.slot_for" QP ["self","frame","coming_from"] []
 F8:∃u,mg "FrameError"=some u/\sA (.ref A.Ba) u
 Gj:∃u,mg "NoRoom"=some u/\sA (.ref A.A4) u
 Fb:XC K mg "NoRoom" A.A4
 Gh:∃f fd,mg "law"=some (.ref f)/\AE K "law" "law" BN f fd/\∀(s:Shared) (u:Value),BindsTo s fd ⟨[u],[]⟩ [("_law_script",u)]
theorem VE {P:List Value->Prop} (h:∀a0,P [a0]):∀us:List Value,us.length=1->P us:=by
 intro us e;cases us with
 |nil=>cases e
 |cons a us=>
  cases us with
  |nil=>exact h a
  |cons b us=>exact absurd e (by simp)
theorem WE {P:List Value->Prop} (h:∀a0 a1,P [a0,a1]):∀us:List Value,us.length=2->P us:=by
 intro us e;cases us with
 |nil=>cases e
 |cons a us=>exact VE (P:=λus=>P (a::us)) (λb0=>h a b0) us (Nat.succ.inj e)
theorem IH {P:List Value->Prop} (h:∀a0 a1 a2,P [a0,a1,a2]):∀us:List Value,us.length=3->P us:=by
 intro us e;cases us with
 |nil=>cases e
 |cons a us=>exact WE (P:=λus=>P (a::us)) (λb0 b1=>h a b0 b1) us (Nat.succ.inj e)
theorem CN {P:List Value->Prop} (h:∀a0 a1 a2 a3,P [a0,a1,a2,a3]):∀us:List Value,us.length=4->P us:=by
 intro us e;cases us with
 |nil=>cases e
 |cons a us=>exact IH (P:=λus=>P (a::us)) (λb0 b1 b2=>h a b0 b1 b2) us (Nat.succ.inj e)
theorem BZ {P:List Value->Prop} (h:∀a0 a1 a2 a3 a4,P [a0,a1,a2,a3,a4]):∀us:List Value,us.length=5->P us:=by
 intro us e;cases us with
 |nil=>cases e
 |cons a us=>exact CN (P:=λus=>P (a::us)) (λb0 b1 b2 b3=>h a b0 b1 b2 b3) us (Nat.succ.inj e)
theorem mJ {K:W.Frag} {h:Heap} {mg:Str->Option Value} (X:K.In h) (G:h.Ns mainGlobals mg)
 {A4 Ba Aa Ad Ac:Addr}
 (En:W.nsIn K mainGlobals "NoRoom"=some (some (.ref A4)))
 (Eo:W.nsIn K mainGlobals "FrameError"=some (some (.ref Ba)))
 (Fc:W.nsIn K mainGlobals "Sheets"=some (some (.ref Aa)))
 (Fx:W.nsIn K mainGlobals "Spots"=some (some (.ref Ad)))
 (Fy:W.nsIn K mainGlobals "Sheet"=some (some (.ref Ac)))
 (F9:W.nsIn K mainGlobals "any"=some none)
 (Fz:W.nsIn K mainGlobals "bool"=some none)
 (Ep:W.nsIn K mainGlobals "enumerate"=some none)
 (Ga:W.nsIn K mainGlobals "int"=some none)
 (Eb:W.nsIn K mainGlobals "isinstance"=some none)
 (Gb:W.nsIn K mainGlobals "len"=some none)
 (F0:W.nsIn K mainGlobals "list"=some none)
 (Gc:W.nsIn K mainGlobals "max"=some none)
 (Fd:W.nsIn K mainGlobals "range"=some none)
 (E1:W.nsIn K mainGlobals "sorted"=some none)
 (Ge:W.nsIn K mainGlobals "str"=some none)
 (Fe:W.nsIn K mainGlobals "tuple"=some none)
 (F1:GF K "swept" fP)
 (Ff:GF K "_law_cell" UP)
 (Fg:GF K "_law_like" VP)
 (F2:GF K "_law_out" ZP)
 (Fh:GF K "_law_told" aQ)
 (Gf:GF K "_law_at" cQ)
 (Fj:GF K "_law_gone" dQ)
 (Ex:GF K "_law_folded" eQ)
 (E2:GF K "_law_fresh" fQ)
 (Fk:GF K "_law_back" gQ)
 (Fl:GF K "_law_made" iQ)
 (E3:GF K "_law_right" jQ)
 (F4:rE K Ac)
 (Du:W.findIn K (.ref Ac) "boxes"=some none)
 (Dg:W.findIn K (.ref Ac) "holders"=some none)
 (Er:IF K Ac "Sheet.__init__" gP)
 (Bk:MF K Ac "told_holders" "Sheet.told_holders" iP)
 (Cu:MF K Ac "is_banked" "Sheet.is_banked" jP)
 (F5:rE K Ad)
 (Dw:W.findIn K (.ref Ad) "lying"=some none)
 (Dx:W.findIn K (.ref Ad) "twins"=some none)
 (Es:IF K Ad "Spots.__init__" kP)
 (Bs:MF K Ad "first_empty" "Spots.first_empty" lP)
 (B9:MF K Ad "first_twin" "Spots.first_twin" nP)
 (Ca:MF K Ad "live_count" "Spots.live_count" oP)
 (Fm:rE K Aa)
 (Dy:W.findIn K (.ref Aa) "size"=some none)
 (Dh:W.findIn K (.ref Aa) "frames"=some none)
 (Dp:W.findIn K (.ref Aa) "slots"=some none)
 (Dz:W.findIn K (.ref Aa) "hand"=some none)
 (Cb:W.findIn K (.ref Aa) "gone_out"=some none)
 (Bf:W.findIn K (.ref Aa) "gone_astray"=some none)
 (Bt:W.findIn K (.ref Aa) "come_back"=some none)
 (Ec:IF K Aa "Sheets.__init__" pP)
 (D0:MF K Aa "fresh" "Sheets.fresh" qP)
 (Ed:MF K Aa "back" "Sheets.back" rP)
 (Ee:MF K Aa "hold" "Sheets.hold" tP)
 (Bu:MF K Aa "holders_of" "Sheets.holders_of" uP)
 (Cv:MF K Aa "sheet_at" "Sheets.sheet_at" vP)
 (Ef:MF K Aa "fold" "Sheets.fold" wP)
 (Bl:MF K Aa "live_sheets" "Sheets.live_sheets" xP)
 (Di:MF K Aa "is_full" "Sheets.is_full" yP)
 (Dj:MF K Aa "hand_at" "Sheets.hand_at" zP)
 (Bm:MF K Aa "told_frames" "Sheets.told_frames" BP)
 (Bv:MF K Aa "told_slots" "Sheets.told_slots" CP)
 (D1:MF K Aa "moved" "Sheets.moved" DP)
 (Cw:MF K Aa "lying_at" "Sheets.lying_at" FP)
 (Cc:MF K Aa "all_spots" "Sheets.all_spots" GP)
 (Cd:MF K Aa "told_slot" "Sheets.told_slot" HP)
 (Ce:MF K Aa "hand_over" "Sheets.hand_over" JP)
 (Bw:MF K Aa "make_empty" "Sheets.make_empty" KP)
 (Cf:MF K Aa "lose_twin" "Sheets.lose_twin" LP)
 (Cg:MF K Aa "frame_for" "Sheets.frame_for" MP)
 (Dk:MF K Aa "put_out" "Sheets.put_out" OP)
 (Cy:MF K Aa "slot_for" "Sheets.slot_for" QP)
 (E4:W.excIn K A4 iH "ValueError.__new__"=true)
 (Gi:GF K "law" BN)
 :∃A:UD,MB K mg A:=⟨⟨Ac,Ad,Aa,Ba,A4⟩,W.mg_none_of X G F9,
  W.mg_none_of X G Fz,
  W.mg_none_of X G Ep,
  W.mg_none_of X G Ga,
  W.mg_none_of X G Eb,
  W.mg_none_of X G Gb,
  W.mg_none_of X G F0,
  W.mg_none_of X G Gc,
  W.mg_none_of X G Fd,
  W.mg_none_of X G E1,
  W.mg_none_of X G Ge,
  W.mg_none_of X G Fe,
  F1.raw X G (λ_ _ _ _ _ _=>WE (λ_ _=>rfl)),
  Ff.raw X G (λ_ _ _ _ _ _=>WE (λ_ _=>rfl)),
  Fg.raw X G (λ_ _ _ _ _ _=>WE (λ_ _=>rfl)),
  F2.raw X G (λ_ _ _ _ _ _=>IH (λ_ _ _=>rfl)),
  Fh.raw X G (λ_ _ _ _ _ _=>WE (λ_ _=>rfl)),
  Gf.raw X G (λ_ _ _ _ _ _=>WE (λ_ _=>rfl)),
  Fj.raw X G (λ_ _ _ _ _ _=>WE (λ_ _=>rfl)),
  Ex.raw X G (λ_ _ _ _ _ _=>VE (λ_=>rfl)),
  E2.raw X G (λ_ _ _ _ _ _=>BZ (λ_ _ _ _ _=>rfl)),
  Fk.raw X G (λ_ _ _ _ _ _=>CN (λ_ _ _ _=>rfl)),
  Fl.raw X G (λ_ _ _ _ _ _=>CN (λ_ _ _ _=>rfl)),
  E3.raw X G (λ_ _ _ _ _ _=>WE (λ_ _=>rfl)),
  F4,
  Du,
  Dg,
  Er.raw X G Fy (λ_ _ _ _ _ _=>IH (λ_ _ _=>rfl)),
  Bk.raw (λ_ _ _ _ _ _=>VE (λ_=>rfl)),
  Cu.raw (λ_ _ _ _ _ _=>VE (λ_=>rfl)),
  F5,
  Dw,
  Dx,
  Es.raw X G Fx (λ_ _ _ _ _ _=>WE (λ_ _=>rfl)),
  Bs.raw (λ_ _ _ _ _ _=>VE (λ_=>rfl)),
  B9.raw (λ_ _ _ _ _ _=>VE (λ_=>rfl)),
  Ca.raw (λ_ _ _ _ _ _=>VE (λ_=>rfl)),
  Fm,
  Dy,
  Dh,
  Dp,
  Dz,
  Cb,
  Bf,
  Bt,
  Ec.raw X G Fc (λ_ _ _ _ _ _=>CN (λ_ _ _ _=>rfl)),
  D0.raw (λ_ _ _ _ _ _=>CN (λ_ _ _ _=>rfl)),
  Ed.raw (λ_ _ _ _ _ _=>IH (λ_ _ _=>rfl)),
  Ee.raw (λ_ _ _ _ _ _=>IH (λ_ _ _=>rfl)),
  Bu.raw (λ_ _ _ _ _ _=>WE (λ_ _=>rfl)),
  Cv.raw (λ_ _ _ _ _ _=>WE (λ_ _=>rfl)),
  Ef.raw (λ_ _ _ _ _ _=>VE (λ_=>rfl)),
  Bl.raw (λ_ _ _ _ _ _=>VE (λ_=>rfl)),
  Di.raw (λ_ _ _ _ _ _=>VE (λ_=>rfl)),
  Dj.raw (λ_ _ _ _ _ _=>VE (λ_=>rfl)),
  Bm.raw (λ_ _ _ _ _ _=>VE (λ_=>rfl)),
  Bv.raw (λ_ _ _ _ _ _=>VE (λ_=>rfl)),
  D1.raw (λ_ _ _ _ _ _=>VE (λ_=>rfl)),
  Cw.raw (λ_ _ _ _ _ _=>WE (λ_ _=>rfl)),
  Cc.raw (λ_ _ _ _ _ _=>VE (λ_=>rfl)),
  Cd.raw (λ_ _ _ _ _ _=>WE (λ_ _=>rfl)),
  Ce.raw (λ_ _ _ _ _ _=>IH (λ_ _ _=>rfl)),
  Bw.raw (λ_ _ _ _ _ _=>WE (λ_ _=>rfl)),
  Cf.raw (λ_ _ _ _ _ _=>WE (λ_ _=>rfl)),
  Cg.raw (λ_ _ _ _ _ _=>IH (λ_ _ _=>rfl)),
  Dk.raw (λ_ _ _ _ _ _=>IH (λ_ _ _=>rfl)),
  Cy.raw (λ_ _ _ _ _ _=>IH (λ_ _ _=>rfl)),
  ⟨_,W.mg_of X G Eo,rfl⟩,
  ⟨_,W.mg_of X G En,rfl⟩,
  ⟨W.mg_of X G En,E4⟩,
  Gi.law X G λ_ _ _ _ _ _ _=>rfl⟩
section
variable {P:Program} {w:World} {K:W.Frag} {mg:Str->Option Value} {base:Heap} {A:UD}
theorem wA {t u:TS} {h:DO t u} {D:fC} {σ:L2.St} {H:Hp} (M:L2.St->Hp->Prop) (h1:t {D with nx:=M} σ H) (h2:∀(U:TS) (D':fC),U=u->D'=D->∀σ' H',M σ' H'->U D' σ' H'):kL t u h D σ H:=⟨M,h1,h2 u D rfl rfl⟩
theorem ZC {H H':Hp} {t:Addr} {o:HO} (s:iA H H') (h:H t=none):iA H (upd H' t o):=λb u e=>by
 rw[oA (BB e h)];exact s b u e
theorem NB {H H':Hp} {p:Addr} (s:iA H H') (h:H' p=none):H p=none:=by
 cases e:H p with
 |none=>rfl
 |some o=>rw[s p o e] at h;cases h
noncomputable def CZ (K:W.Frag) (a:Addr) (ns:List Int):Sp:=λvs H Q _=>∃(k:Int),vs=[.ref a,.int k]/\kA K H a (ns.map V.int)/\0<=k/\Q (.int (ns.getD k.toNat 0)) H
theorem bW (T:MB K mg A) (a:Addr) (ns:List Int):HC P w K mg base "_law_cell" 1 ["_law_script","_law_k"] [] (CZ K a ns):=by
 refine T.E6.have zZ (λvs H Q E z=>?_) ?_
 ·obtain⟨k,rfl,_⟩:=z;rfl
 ·intro f cdv A' outer s H vs Q E hr z;obtain⟨k,rfl,hs,hk,q⟩:=z;refine⟨_,(aB (GB (qB PM (aA 1) (DB yC rfl T.Aj PySem.boot_len (dA (aA 0) nA)) (gA _)) (BA (zB (yA SA (aA 0) (aA 1) (λ_ _=>rfl)))) XB)
   (BA (zB rA))),?_⟩
  rfl';refine⟨ns.length,.inl ⟨_,hs,by simp⟩,?_⟩;by_cases c:k < (ns.length:Int)
  ·rw[if_pos c];refine⟨_,hs,.int (ns.getD k.toNat 0),?_,q⟩;have hlt:k.toNat < ns.length:=⋯;have e:SE (ns.map V.int) ((k.toNat:Nat):Int)=some (.int (ns.getD k.toNat 0)):=xA (by simp[hlt]);rw[show ((k.toNat:Nat):Int)=k by omega] at e;exact e
  ·rw[if_neg c];have hge:ns.length<=k.toNat:=⋯;rw[show ns.getD k.toNat 0=0 by simp[List.getD,hge]] at q;exact q
noncomputable def DZ:V->Bool
 |.non=>true
 |.bl _=>true
 |.int _=>true
 |.str _=>true
 |_=>false
mutual
noncomputable def EB (H:Hp):Dv->V->Prop
 |.leaf v,x=>x=v/\DZ v=true
 |.seq t ds,x=>∃a xs,x=.ref a/\H a=some (if t=true then .tup xs else .lst xs)/\ds.length < 16777216/\EA H ds xs
noncomputable def EA (H:Hp):List Dv->List V->Prop
 |[],xs=>xs=[]
 |d::ds,xs=>∃x r,xs=x::r/\EB H d x/\EA H ds r
end
theorem EA.len {H:Hp}:∀{ds:List Dv} {xs:List V},EA H ds xs->xs.length=ds.length
 |[],xs,h=>by unfold EA at h;subst h;rfl
 |d::ds,xs,h=>by
  unfold EA at h;obtain⟨x,r,rfl,_,h⟩:=h;simp[h.len]
theorem EA.at {H:Hp}:∀{ds:List Dv} {xs:List V} {i:Nat} {d:Dv},EA H ds xs->ds[i]?=some d->∃x,xs[i]?=some x/\EB H d x
 |[],_,_,_,_,h=>by simp at h
 |d::ds,xs,0,e,h,hi=>by
  unfold EA at h;obtain⟨x,r,rfl,hx,_⟩:=h;simp at hi;subst hi;exact⟨x,rfl,hx⟩
 |d::ds,xs,i+1,e,h,hi=>by
  unfold EA at h;obtain⟨x,r,rfl,_,h⟩:=h;simp at hi;obtain⟨y,hy,hl⟩:=h.at hi;exact⟨y,by simpa using hy,hl⟩
theorem cW:∀{ds:List Dv} {i:Nat} {d:Dv},ds[i]?=some d->kB d<=vA ds
 |[],_,_,h=>by simp at h
 |d::ds,0,e,h=>by
  simp at h;subst h;rw[vA];exact Nat.le_max_left ..
 |d::ds,i+1,e,h=>by
  simp at h;rw[vA];exact Nat.le_trans (cW h) (Nat.le_max_right ..)
mutual
theorem EB.same {H H':Hp}:∀{d:Dv} {x:V},EB H d x->iA H H'->EB H' d x
 |.leaf v,x,h,_=>by unfold EB at h ⊢;exact h
 |.seq t ds,x,h,s=>by
  unfold EB at h ⊢;obtain⟨a,xs,e,ha,hz,hl⟩:=h;exact⟨a,xs,e,s _ _ ha,hz,hl.same s⟩
theorem EA.same {H H':Hp}:∀{ds:List Dv} {xs:List V},EA H ds xs->iA H H'->EA H' ds xs
 |[],xs,h,_=>by unfold EA at h ⊢;exact h
 |d::ds,xs,h,s=>by
  unfold EA at h ⊢;obtain⟨x,r,e,hx,hl⟩:=h;exact⟨x,r,e,hx.same s,hl.same s⟩
end
noncomputable def dW:Nat->Sp
 |0=>λ_ _ _ _=>False
 |n+1=>λvs H Q _=>∃(x y:V) (d:Dv),vs=[x,y]/\EB H d x/\EB H d y/\kB d<=n/\∀H',iA H H'->Q (.bl true) H'
theorem JH {H:Hp} {a:Addr} {o:HO} {n:String} (h:H a=some o) (e:(bD (some o) == n || (bD (some o) == "bool"&&n == "int"))=false):EE n H (.ref a)=false:=by
 unfold EE;rw[show kd H (.ref a)=bD (H a) from rfl,h];exact e
theorem eW (T:MB K mg A):∀n,HC P w K mg base "_law_like" (n+1) ["_law_found","_law_due"] [] (dW n):=by
 intro n
 induction n with
 |zero=>exact T.Ek.have WP (λvs H Q E z=>z.elim) (λ_ _ _ _ _ _ _ _ _ _ z=>z.elim)
 |succ n ih=>
  have A8:=ih;refine T.Ek.have WP (λvs H Q E z=>?_) ?_
  ·obtain⟨x,y,d,rfl,_⟩:=z;rfl
  ·intro f cdv A' outer s H vs Q E hr z;obtain⟨x,y,d,rfl,hx,hy,hd,q⟩:=z;refine⟨_,(aB (GB (qB LD (aA 1) lB (gA _)) (BA (zB (uI LD (aA 0) lB (gA _)))) XB)
   (aB (GB (XD (DB LF rfl T.Al PyProof.Rows.boot_isinstance (dA (aA 1) (dA (JF (n:="bool") rfl T.Ej PyProof.Rows.boot_bool) nA)))) (BA (zB (KM (DB LF rfl T.Al PyProof.Rows.boot_isinstance (dA (aA 0) (dA (JF (n:="bool") rfl T.Ej PyProof.Rows.boot_bool) nA))) (gO (uI vE (aA 0) (aA 1) (gA _)))))) XB)
   (aB (GB (XD (DB LF rfl T.Al PyProof.Rows.boot_isinstance (dA (aA 1) (dA (JF (n:="int") rfl T.Fq PyProof.Rows.boot_int) nA)))) (BA (zB (KM (DB LF rfl T.Al PyProof.Rows.boot_isinstance (dA (aA 0) (dA (JF (n:="int") rfl T.Fq PyProof.Rows.boot_int) nA))) (KM (nI (DB LF rfl T.Al PyProof.Rows.boot_isinstance (dA (aA 0) (dA (JF (n:="bool") rfl T.Ej PyProof.Rows.boot_bool) nA)))) (gO (uI vE (aA 0) (aA 1) (gA _))))))) XB)
   (aB (GB (XD (DB LF rfl T.Al PyProof.Rows.boot_isinstance (dA (aA 1) (dA (JF (n:="str") rfl T.Fu PyProof.Rows.boot_str) nA)))) (BA (zB (KM (DB LF rfl T.Al PyProof.Rows.boot_isinstance (dA (aA 0) (dA (JF (n:="str") rfl T.Fu PyProof.Rows.boot_str) nA))) (gO (uI vE (aA 0) (aA 1) (gA _)))))) XB)
   (nB (GB (PW.pt (QE (XD (DB LF rfl T.Al PyProof.Rows.boot_isinstance (dA (aA 1) (dA (JF (n:="list") rfl T.Bd PyProof.Rows.boot_list) nA)))) (OE (lG (XD (DB LF rfl T.Al PyProof.Rows.boot_isinstance (dA (aA 0) (dA (JF (n:="list") rfl T.Bd PyProof.Rows.boot_list) nA)))))))) (BA (zB kG)) XB)
   (nB (GB (PW.pt (QE (XD (DB LF rfl T.Al PyProof.Rows.boot_isinstance (dA (aA 1) (dA (JF (n:="tuple") rfl T.Dq PyProof.Rows.boot_tuple) nA)))) (OE (lG (XD (DB LF rfl T.Al PyProof.Rows.boot_isinstance (dA (aA 0) (dA (JF (n:="tuple") rfl T.Dq PyProof.Rows.boot_tuple) nA)))))))) (BA (zB kG)) XB)
   (aB (GB (qB lO (DB yC rfl T.Aj PySem.boot_len (dA (aA 0) nA)) (DB yC rfl T.Aj PySem.boot_len (dA (aA 1) nA)) (gA _)) (BA (zB kG)) XB)
   (aB (rF PassesOwn.leaving rfl (RE rfl T.Ao (dA (DB yC rfl T.Aj PySem.boot_len (dA (aA 1) nA)) nA)) (wC (i:=2) WP.nd rfl (Or.inl rfl)) (BA (GB (lG (XD (pC A8 (hr.mono ⋯) ZA (dA (yA YU (aA 0) (aA 2) (λ_ _=>rfl)) (dA (yA YU (aA 1) (aA 2) (λ_ _=>rfl)) nA))))) (BA (zB kG)) XB)))
   (BA (zB kG)))))))))),?_⟩
   cases d with
   |leaf v=>
    unfold EB at hx hy;obtain⟨ex,hv⟩:=hx;obtain⟨ey,_⟩:=hy;subst ex;subst ey;cases y with
    |non=>
     rfl';exact q _ iB
    |bl b=>
     rfl';rw[if_neg (λz=>nomatch z)];exact⟨by decide,ZB ⟨by decide,ZB (q _ iB)⟩⟩
    |int i=>
     rfl';rw[if_neg (λz=>nomatch z)];exact⟨by decide,UA ⟨by decide,ZB ⟨by decide,ZB ⟨by decide,ZB (q _ iB)⟩⟩⟩⟩
    |str t=>
     rfl';rw[if_neg (λz=>nomatch z)];exact⟨by decide,UA ⟨by decide,UA ⟨by decide,ZB ⟨by decide,ZB (q _ iB)⟩⟩⟩⟩
    |_=>cases hv
   |seq t ds=>
    unfold EB at hx hy;obtain⟨a,xs,rfl,ha,hzl,hxs⟩:=hx;obtain⟨b,ys,rfl,hb,_,hys⟩:=hy;have hlx:=hxs.len;have hly:=hys.len;have hdl:vA ds+1<=n:=by rw[kB] at hd;exact hd
    have step:∀(i:Nat) (H':Hp) (Q':VK) (E':XK),i < ds.length->iA H H'->(∀H'',iA H H''->Q' (.bl true) H'')->∃x y,xs[i]?=some x/\ys[i]?=some y/\dW n [x,y] H' Q' E':=λi H' Q' E' hi s1 hq=>by
     obtain⟨x,hx1,hx2⟩:=hxs.at (List.getElem?_eq_getElem hi);obtain⟨y,hy1,hy2⟩:=hys.at (List.getElem?_eq_getElem hi);refine⟨x,y,hx1,hy1,?_⟩;cases n with
     |zero=>omega
     |succ n=>exact⟨x,y,ds[i],rfl,hx2.same s1,hy2.same s1,by have:=cW (List.getElem?_eq_getElem hi);omega,λH'' s2=>hq _ (s1.trans s2)⟩
    rfl';rw[if_neg (λz=>nomatch z)];cases t with
    |false=>
     have ha:H a=some (.lst xs):=ha;have hb:H b=some (.lst ys):=hb;rw[JH hb rfl,JH hb rfl,JH hb rfl];refine⟨by decide,fK hb,UA ⟨by decide,fK hb,UA ⟨by decide,fK hb,UA ⟨λσ H'=>σ=[some (.ref a),some (.ref b),none]/\H'=H,?_,λσ' H'=>?_⟩⟩⟩⟩
     ·rfl';rw[FU hb,FU ha];exact⟨by decide,fK hb,ZB ⟨by decide,fK ha,UA trivial⟩⟩
     rintro⟨rfl,rfl⟩;refine⟨λσ H''=>σ=[some (.ref a),some (.ref b),none]/\H''=H',?_,λσ' H''=>?_⟩
     ·rfl';rw[JH hb rfl];exact⟨by decide,fK hb,UA (UA trivial)⟩
     rintro⟨rfl,rfl⟩;rfl';refine⟨_,.inl ⟨_,kA.of ha,rfl⟩,_,.inl ⟨_,kA.of hb,rfl⟩,?_⟩;rw[decide_eq_true ⋯];refine UA ⟨_,.inl ⟨_,kA.of hb,rfl⟩,⋯,⋯,?_⟩;refine iK (λi σ H1=>∃v2,σ=[some (.ref a),some (.ref b),v2]/\iA H'' H1) ⟨_,rfl,iB⟩ (λi σ H1 hi=>?_) (λσ H1=>?_)
     ·rintro⟨v2,rfl,s1⟩;rfl';obtain⟨x,y,hx1,hy1,hsp⟩:=step i H1 (λx H2=>∃c,x=V.bl c/\if (!c)=true then Q (V.bl false) H2 else iA H'' H2) (λc x H'=>E c none H') ⋯ s1 (λH'' s2=>⟨true,rfl,UA s2⟩);exact .inl ⟨_,kA.of (s1 _ _ ha),x,by rw[Int.zero_add];exact xA hx1,.inl ⟨_,kA.of (s1 _ _ hb),y,by rw[Int.zero_add];exact xA hy1,hsp⟩⟩
     ·rintro⟨v2,rfl,s1⟩;rfl';exact q _ s1
    |true=>
     have ha:H a=some (.tup xs):=ha;have hb:H b=some (.tup ys):=hb;rw[JH hb rfl,JH hb rfl,JH hb rfl];refine⟨by decide,gK hb,UA ⟨by decide,gK hb,UA ⟨by decide,gK hb,UA ⟨λσ H'=>σ=[some (.ref a),some (.ref b),none]/\H'=H,?_,λσ' H'=>?_⟩⟩⟩⟩
     ·rfl';rw[JH hb rfl];exact⟨by decide,gK hb,UA (UA trivial)⟩
     rintro⟨rfl,rfl⟩;refine⟨λσ H''=>σ=[some (.ref a),some (.ref b),none]/\H''=H',?_,λσ' H''=>?_⟩
     ·rfl';rw[EU hb,EU ha];exact⟨by decide,gK hb,ZB ⟨by decide,gK ha,UA trivial⟩⟩
     rintro⟨rfl,rfl⟩;rfl';refine⟨_,.inr ⟨_,cB.of ha,rfl⟩,_,.inr ⟨_,cB.of hb,rfl⟩,?_⟩;rw[decide_eq_true ⋯];refine UA ⟨_,.inr ⟨_,cB.of hb,rfl⟩,⋯,⋯,?_⟩;refine iK (λi σ H1=>∃v2,σ=[some (.ref a),some (.ref b),v2]/\iA H'' H1) ⟨_,rfl,iB⟩ (λi σ H1 hi=>?_) (λσ H1=>?_)
     ·rintro⟨v2,rfl,s1⟩;rfl';obtain⟨x,y,hx1,hy1,hsp⟩:=step i H1 (λx H2=>∃c,x=V.bl c/\if (!c)=true then Q (V.bl false) H2 else iA H'' H2) (λc x H'=>E c none H') ⋯ s1 (λH'' s2=>⟨true,rfl,UA s2⟩);exact .inr ⟨_,cB.of (s1 _ _ ha),x,by rw[Int.zero_add];exact xA hx1,.inr ⟨_,cB.of (s1 _ _ hb),y,by rw[Int.zero_add];exact xA hy1,hsp⟩⟩
     ·rintro⟨v2,rfl,s1⟩;rfl';exact q _ s1
noncomputable def rg (n:Nat) (h:Int) (j:Nat):List Int:=(List.range j).map λ(i:Nat)=>(h+(i:Int)) % (n:Int)
theorem DN {n j:Nat} {h:Int}:(rg n h j).length=j:=by unfold rg;rw[List.length_map,List.length_range]
theorem fW {n j:Nat} {h:Int}:rg n h (j+1)=rg n h j++[(h+j) % (n:Int)]:=by unfold rg;rw[List.range_succ,List.map_append];rfl
noncomputable def PL (K:W.Frag):Sp:=λvs H Q _=>∃(m:Addr) (h:Int) (bs:List Bool),vs=[.ref m,.int h]/\kA K H m (bs.map V.bl)/\0<=h/\h < bs.length/\bs.length<=2000/\
 ∀(t u:Addr) (j:Nat) H',iA H H'->H t=none->H u=none->j<=bs.length->(∀i < j,bs.getD ((h+i) % (bs.length:Int)).toNat false=true)->(j=bs.length\/bs.getD ((h+j) % (bs.length:Int)).toNat false=false)->
  H' t=some (.tup [.int ((h+j) % (bs.length:Int)),.ref u])->H' u=some (.lst ((rg bs.length h j).map V.int))->Q (.ref t) H'
theorem kQ (T:MB K mg A):HC P w K mg base "swept" 1 ["marks","hand"] [] (PL K):=by
 refine T.Fv.have zN (λvs H Q E z=>?_) ?_
 ·obtain⟨m,h,bs,rfl,_⟩:=z;rfl
 ·intro f cdv A' outer s H vs Q E hr z;obtain⟨m,h,bs,rfl,hm,h0,h1,h2,q⟩:=z;refine⟨_,(aB (mB (i:=2) zN.nd rfl (Or.inl rfl) (UC nA))
   (aB (mB (i:=3) zN.nd rfl (Or.inl rfl) (aA 1))
   (aB (UU PassesOwn.leaving (PW.pt (QE (qB PM (DB yC rfl T.Aj PySem.boot_len (dA (aA 2) nA)) (DB yC rfl T.Aj PySem.boot_len (dA (aA 0) nA)) (gA _)) (OE (XD (yA SA (aA 0) (aA 3) (λ_ _=>rfl)))))) (aB (aD (BF PySem.F.plainAttrs_list PySem.F.slot_list_append PySem.F.type_list_append CF (aA 2) (dA (aA 3) nA)))
   (BA (mB (i:=3) zN.nd rfl (Or.inl rfl) (VA FC (VA zD (aA 3) rA) (DB yC rfl T.Aj PySem.boot_len (dA (aA 0) nA)))))))
   (BA (zB (VC (dA (aA 3) (dA (aA 2) nA)))))))),?_⟩
  rfl';intro u hu;refine VU (λmm σ H'=>∃j:Nat,mm=bs.length - j/\j<=bs.length/\σ=[some (.ref m),some (.int h),some (.ref u),some (.int ((h+j) % (bs.length:Int)))]/\iA H H'/\H' u=some (.lst ((rg bs.length h j).map V.int))/\(∀i < j,bs.getD ((h+i) % (bs.length:Int)).toNat false=true)) bs.length ⟨0,rfl,Nat.zero_le _,?_,HB iB hu,OA,λi hi=>absurd hi (Nat.not_lt_zero _)⟩ (λmm σ H'=>?_)
  ·rw[show (h+((0:Nat):Int)) % (bs.length:Int)=h by rw[Int.emod_eq_of_lt]<;>omega]
  ·rintro⟨j,rfl,hj,rfl,sm,hu',hall⟩;rfl';refine⟨j,.inl ⟨_,kA.of hu',by rw[List.length_map,DN]⟩,bs.length,.inl ⟨_,sm.seq hm,by simp⟩,?_⟩;have hpos:(0:Int) < bs.length:=⋯;have hp0:=Int.emod_nonneg (h+j) (show (bs.length:Int)≠0 by omega);have hp1:=Int.emod_lt_of_pos (h+j) hpos;have hat:SE (bs.map V.bl) ((h+j) % (bs.length:Int))=some (.bl (bs.getD ((h+j) % (bs.length:Int)).toNat false)):=by
    generalize (h+j) % (bs.length:Int)=p at *;have e:=xA (xs:=bs.map V.bl) (j:=p.toNat) (v:=.bl (bs.getD p.toNat false)) (by
     have:p.toNat < bs.length:=⋯;simp[this])
    rw[show ((p.toNat:Nat):Int)=p by omega] at e;exact e
   by_cases c:(j:Int) < bs.length
   ·rw[if_pos c];refine⟨_,sm.seq hm,_,hat,_,rfl,?_⟩;cases hb:bs.getD ((h+j) % (bs.length:Int)).toNat false with
    |true=>
     refine ZB (qH ?_);rfl';refine⟨.inl ⟨rfl,_,kA.of hu'⟩,_,hu',by rw[List.length_map,DN];omega,bs.length,.inl ⟨_,(ZC sm hu).seq hm,by simp⟩,hpos,bs.length - (j+1),⋯,j+1,rfl,⋯,?_,ZC sm hu,?_,λi hi=>?_⟩
     ·rw[Int.emod_add_emod];congr 1;omega
     ·rw[fW,List.map_append];rfl
     ·rcases (by omega:i < j\/i=j) with hi|rfl
      ·exact hall i hi
      ·exact hb
    |false=>
     refine UA λt ht=>?_;exact q t u j _ (HB sm ht) (NB sm ht) hu hj hall (.inr hb) OA (by rw[oA (BB hu' ht)];exact hu')
   ·rw[if_neg c];refine UA λt ht=>?_;exact q t u j _ (HB sm ht) (NB sm ht) hu hj hall (.inl ⋯) OA (by rw[oA (BB hu' ht)];exact hu')
theorem jE {α β:Type} {F:α->β->Prop}:∀{xs:List α} {ys:List β} {i:Nat} {x:α},Paired F xs ys->xs[i]?=some x->∃y,ys[i]?=some y/\F x y
 |_,_,_,_,.nil,e=>by simp at e
 |_,_,0,_,.cons r _,e=>by simp at e;subst e;exact⟨_,rfl,r⟩
 |_,_,i+1,x,.cons _ t,e=>by
  obtain⟨u,h1,h2⟩:=jE (i:=i) (x:=x) t (by simpa using e);exact⟨u,by simpa using h1,h2⟩
theorem mF {α β:Type} {F:α->β->Prop}:∀{xs:List α} {ys:List β} {i:Nat} {y:β},Paired F xs ys->ys[i]?=some y->∃x,xs[i]?=some x/\F x y
 |_,_,_,_,.nil,e=>by simp at e
 |_,_,0,_,.cons r _,e=>by simp at e;subst e;exact⟨_,rfl,r⟩
 |_,_,i+1,y,.cons _ t,e=>by
  obtain⟨u,h1,h2⟩:=mF (i:=i) (y:=y) t (by simpa using e);exact⟨u,by simpa using h1,h2⟩
theorem cG {α β:Type} {F:α->β->Prop} {x:α} {y:β} (hxy:F x y):∀{xs:List α} {ys:List β} (i:Nat),Paired F xs ys->Paired F (xs.set i x) (ys.set i y)
 |_,_,_,.nil=>.nil
 |_,_,0,.cons _ t=>.cons hxy t
 |_,_,i+1,.cons r t=>.cons r (cG hxy i t)
set_option genInjectivity false in
structure Sh where
 b:List Int
 ks:List (List Key)
 sh:Addr
 bx:Addr
 hd:Addr
noncomputable def Kp (ex:List Addr) (H H':Hp):Prop:=∀c o,H c=some o->c∉ex->H' c=some o
noncomputable def pK (bx hd:Addr):List (Str×V):=AA "holders" (.ref hd) (AA "boxes" (.ref bx) [])
theorem EN {bx hd:Addr}:(pK bx hd).lookup ("boxes":Str)=some (.ref bx):=by rfl
theorem lQ {bx hd:Addr}:(pK bx hd).lookup ("holders":Str)=some (.ref hd):=by rfl
theorem KH {bx hd:Addr} {m:Str} (h:¬m∈(["boxes","holders"]:List Str)):(pK bx hd).lookup m=none:=by
 simp only[List.mem_cons,List.not_mem_nil,or_false,not_or] at h;unfold pK;simp only[aL,h.1,h.2,if_false]
 rfl
noncomputable def LH (ly tw:Addr):List (Str×V):=AA "twins" (.ref tw) (AA "lying" (.ref ly) [])
theorem lD {ly tw:Addr}:(LH ly tw).lookup ("lying":Str)=some (.ref ly):=by rfl
theorem sE {ly tw:Addr}:(LH ly tw).lookup ("twins":Str)=some (.ref tw):=by rfl
theorem qK {ly tw:Addr} {m:Str} (h:¬m∈(["lying","twins"]:List Str)):(LH ly tw).lookup m=none:=by
 simp only[List.mem_cons,List.not_mem_nil,or_false,not_or] at h;unfold LH;simp only[aL,h.1,h.2,if_false]
 rfl
set_option genInjectivity false in
structure St where
 fr:List (Option Sh)
 sr:List (Option Sh)
 h:Nat
 go:Int
 ga:Int
 cb:Int
 tf:List (Option Nat)
 ts:List (Option Nat)
noncomputable def QC (n:Int) (fp sq:Addr) (s:St):List (Str×V):=AA "come_back" (.int s.cb) (AA "gone_astray" (.int s.ga) (AA "gone_out" (.int s.go) (AA "hand" (.int s.h) (AA "slots" (.ref sq) (AA "frames" (.ref fp) (AA "size" (.int n) []))))))
section
variable {n:Int} {fp sq:Addr} {s:St}
theorem wD:(QC n fp sq s).lookup ("frames":Str)=some (.ref fp):=by rfl
theorem YD:(QC n fp sq s).lookup ("slots":Str)=some (.ref sq):=by rfl
theorem QL:(QC n fp sq s).lookup ("hand":Str)=some (.int s.h):=by rfl
theorem gW:(QC n fp sq s).lookup ("gone_out":Str)=some (.int s.go):=by rfl
theorem hW:(QC n fp sq s).lookup ("gone_astray":Str)=some (.int s.ga):=by rfl
theorem iW:(QC n fp sq s).lookup ("come_back":Str)=some (.int s.cb):=by rfl
theorem EC {m:Str} (h:¬m∈(["size","frames","slots","hand","gone_out","gone_astray","come_back"]:List Str)):(QC n fp sq s).lookup m=none:=by
 simp only[List.mem_cons,List.not_mem_nil,or_false,not_or] at h;obtain⟨a1,a2,a3,a4,a5,a6,a7⟩:=h;unfold QC;simp only[aL,a1,a2,a3,a4,a5,a6,a7,if_false]
 rfl
theorem nJ {h:Nat}:AA "hand" (.int (h:Int)) (QC n fp sq s)=QC n fp sq {s with h:=h}:=by rfl
theorem oJ {x:Int}:AA "gone_out" (.int x) (QC n fp sq s)=QC n fp sq {s with go:=x}:=by rfl
theorem pJ {x:Int}:AA "gone_astray" (.int x) (QC n fp sq s)=QC n fp sq {s with ga:=x}:=by rfl
theorem qJ {x:Int}:AA "come_back" (.int x) (QC n fp sq s)=QC n fp sq {s with cb:=x}:=by rfl
end
noncomputable def RC (ks:List (List Key)):List (List Key×V):=ks.map λk=>(k,V.bl true)
noncomputable def XA (C:Addr) (H:Hp) (v:V):Option Sh->Prop
 |none=>v=.non
 |some r=>v=.ref r.sh/\(∃dx,H r.sh=some (.ins C dx (pK r.bx r.hd)))/\H r.bx=some (.lst (r.b.map V.int))/\H r.hd=some (.dT (RC r.ks))
noncomputable abbrev WB (C:Addr) (H:Hp):List V->List (Option Sh)->Prop:=Paired (XA C H)
theorem XA.same {C:Addr} {H H':Hp} (s:iA H H') {v:V}:∀{r:Option Sh},XA C H v r->XA C H' v r
 |none,h=>h
 |some _,⟨e,⟨dx,h1⟩,h2,h3⟩=>⟨e,⟨dx,s _ _ h1⟩,s _ _ h2,s _ _ h3⟩
theorem WB.same {C:Addr} {H H':Hp} (s:iA H H') {vs:List V} {rs:List (Option Sh)} (h:WB C H vs rs):WB C H' vs rs:=Paired.mapP h λ_ _ q=>q.same s
noncomputable def oV:Option Nat->V
 |none=>.non
 |some j=>.int (j:Int)
noncomputable def kE (C S:Addr) (H:Hp) (p ly tw:Addr) (rows:List (Option Sh)) (tws:List (Option Nat)):Prop:=∃dx vs,H p=some (.ins C dx (LH ly tw))/\H ly=some (.lst vs)/\WB S H vs rows/\H tw=some (.lst (tws.map oV))/\tws.length=rows.length
theorem kE.same {C S:Addr} {H H':Hp} {p ly tw:Addr} {rows:List (Option Sh)} {tws:List (Option Nat)} (h:kE C S H p ly tw rows tws) (s:iA H H'):kE C S H' p ly tw rows tws:=let ⟨dx,vs,h1,h2,h3,h4,h5⟩:=h;⟨dx,vs,s _ _ h1,s _ _ h2,h3.same s,s _ _ h4,h5⟩
set_option genInjectivity false in
structure Ss where
 p:Addr
 fp:Addr
 ly:Addr
 tw:Addr
 sq:Addr
 ls:Addr
 ts:Addr
 n:Int
noncomputable def Ss.four (z:Ss):List Addr:=[z.ly,z.tw,z.ls,z.ts]
noncomputable def Ks (z:Ss) (H H':Hp):Prop:=∀c o,H c=some o->c≠z.p->c∉z.four->H' c=some o
theorem Ks.trans {z:Ss} {H H1 H2:Hp} (a:Ks z H H1) (b:Ks z H1 H2):Ks z H H2:=λc o h h1 h2=>b c o (a c o h h1 h2) h1 h2
theorem Ks.of {z:Ss} {H H':Hp} (s:iA H H'):Ks z H H':=λc o h _ _=>s c o h
noncomputable def Kd (z:Ss) (H H':Hp):Prop:=∀c o,H c=some o->c≠z.p->c∉z.four->(∀kvs,o≠.dT kvs)->H' c=some o
theorem Kd.trans {z:Ss} {H H1 H2:Hp} (a:Kd z H H1) (b:Kd z H1 H2):Kd z H H2:=λc o h h1 h2 h3=>b c o (a c o h h1 h2 h3) h1 h2 h3
theorem Ks.kd {z:Ss} {H H':Hp} (s:Ks z H H'):Kd z H H':=λc o h h1 h2 _=>s c o h h1 h2
theorem Kd.of {z:Ss} {H H':Hp} (s:iA H H'):Kd z H H':=λc o h _ _ _=>s c o h
noncomputable def SB (rows:List (Option Sh)):List Addr:=rows.filterMap λr=>r.map Sh.hd
structure lA (C P S:Addr) (H:Hp) (z:Ss) (s:St):Prop where
 me:∃dx,H z.p=some (.ins C dx (QC z.n z.fp z.sq s))
 fr:kE P S H z.fp z.ly z.tw s.fr s.tf
 sl:kE P S H z.sq z.ls z.ts s.sr s.ts
 n4:z.four.Nodup
 bx:∀r,some r∈s.fr\/some r∈s.sr->r.bx∉z.four
 len:s.fr.length<=640/\s.sr.length<=640
 hh:s.h < s.fr.length
theorem lA.same {C P S:Addr} {H H':Hp} {z:Ss} {s:St} (h:lA C P S H z s) (e:iA H H'):lA C P S H' z s:=
 ⟨let ⟨dx,q⟩:=h.me;⟨dx,e _ _ q⟩,h.fr.same e,h.sl.same e,h.n4,h.bx,h.len,h.hh⟩
theorem lA.fours {C P S:Addr} {H:Hp} {z:Ss} {s:St} (h:lA C P S H z s):∀c∈z.four,∃us,H c=some (.lst us):=λc hc=>by
 obtain⟨_,_,_,f2,_,f4,_⟩:=id h.fr;obtain⟨_,_,_,g2,_,g4,_⟩:=id h.sl;unfold Ss.four at hc;simp only[List.mem_cons,List.not_mem_nil,or_false] at hc;rcases hc with rfl|rfl|rfl|rfl
 ·exact⟨_,f2⟩
 ·exact⟨_,f4⟩
 ·exact⟨_,g2⟩
 ·exact⟨_,g4⟩
theorem lA.nf {C P S:Addr} {H:Hp} {z:Ss} {s:St} (h:lA C P S H z s) {e:Addr} (he:H e=none):e∉z.four:=λz9=>by obtain⟨us,h⟩:=h.fours _ z9;rw[he] at h;cases h
noncomputable def Ap (s:St):Prop:=(SB (s.fr++s.sr)).Nodup
noncomputable def St.rw (s:St) (f:Bool):List (Option Sh):=if f=true then s.fr else s.sr
noncomputable def St.put (s:St) (f:Bool) (j:Nat) (r:Option Sh):St:=if f=true then {s with fr:=s.fr.set j r} else {s with sr:=s.sr.set j r}
noncomputable def Ss.la (z:Ss) (f:Bool):Addr:=if f=true then z.ly else z.ls
noncomputable def mD (f:Bool):Str:=if f=true then Str.ofString "frame" else Str.ofString "slot"
theorem uF {z:Ss} {f:Bool}:z.la f∈z.four:=by cases f<;>simp[Ss.la,Ss.four]
theorem lA.row {C P S:Addr} {H:Hp} {z:Ss} {s:St} (h:lA C P S H z s) (f:Bool):∃vs,H (z.la f)=some (.lst vs)/\WB S H vs (s.rw f):=by
 cases f with
 |true=>obtain⟨_,vs,_,h2,h3,_⟩:=h.fr;exact⟨vs,h2,h3⟩
 |false=>obtain⟨_,vs,_,h2,h3,_⟩:=h.sl;exact⟨vs,h2,h3⟩
theorem rK {S a:Addr} {H:Hp} {us:List V} {o:HO} (hl:H a=some (.lst us)) {v:V}:∀{r:Option Sh},XA S H v r->(∀q,r=some q->q.bx≠a)->XA S (upd H a o) v r
 |none,h,_=>h
 |some r,⟨e,⟨dx,h1⟩,h2,h3⟩,hb=>⟨e,⟨dx,by rw[oA (bC h1 hl (λz=>nomatch z))];exact h1⟩,by rw[oA (hb r rfl)];exact h2,by rw[oA (bC h3 hl (λz=>nomatch z))];exact h3⟩
theorem oG {S a:Addr} {H:Hp} {us:List V} {o:HO} (hl:H a=some (.lst us)) {vs:List V} {rows:List (Option Sh)} (h:WB S H vs rows) (hb:∀r,some r∈rows->r.bx≠a):WB S (upd H a o) vs rows:=by
 induction h with
 |nil=>exact .nil
 |@cons x y _ _ h t ih=>exact .cons (rK hl h λq e=>hb q (by rw[e];exact List.mem_cons_self ..)) (ih λr hr=>hb r (List.mem_cons_of_mem _ hr))
theorem FN {s:St} {f:Bool} {j:Nat} {r:Option Sh} {q:Sh} (h:some q∈(s.put f j r).fr\/some q∈(s.put f j r).sr):some q=r\/some q∈s.fr\/some q∈s.sr:=by
 cases f with
 |true=>
  rcases h with h|h
  ·rcases List.mem_or_eq_of_mem_set (show some q∈s.fr.set j r from h) with h|h
   ·exact .inr (.inl h)
   ·exact .inl h
  ·exact .inr (.inr h)
 |false=>
  rcases h with h|h
  ·exact .inr (.inl h)
  ·rcases List.mem_or_eq_of_mem_set (show some q∈s.sr.set j r from h) with h|h
   ·exact .inr (.inr h)
   ·exact .inl h
theorem lA.set {C P S:Addr} {H:Hp} {z:Ss} {s:St} {f:Bool} {vs:List V} {v:V} {r:Option Sh} {j:Nat} (h:lA C P S H z s) (hl:H (z.la f)=some (.lst vs)) (hv:XA S H v r) (hb:∀q,r=some q->q.bx∉z.four):lA C P S (upd H (z.la f) (.lst (vs.set j v))) z (s.put f j r):=by
 obtain⟨dx,h1⟩:=h.me;obtain⟨dx1,vs1,f1,f2,f3,f4,f5⟩:=id h.fr;obtain⟨dx2,vs2,g1,g2,g3,g4,g5⟩:=id h.sl;have n4:=h.n4;unfold Ss.four at n4;simp only[List.nodup_cons,List.mem_cons,List.not_mem_nil,or_false,not_or,not_false_eq_true,List.nodup_nil,and_true] at n4;obtain⟨⟨n1,n2,n3⟩,⟨n5,n6⟩,n7⟩:=n4;have bx:∀q,some q∈s.fr\/some q∈s.sr->q.bx≠z.la f:=λq hq e=>h.bx q hq (by rw[e];exact uF);have hv2:XA S (upd H (z.la f) (.lst (vs.set j v))) v r:=rK hl hv λq e z9=>hb q e (by rw[z9];exact uF);have ni:∀{c D dx fs},H c=some (.ins D dx fs)->upd H (z.la f) (.lst (vs.set j v)) c=some (.ins D dx fs):=λhc=>by rw[oA (bC hc hl (λz=>nomatch z))];exact hc
 have nl:∀{c o},H c=some o->c≠z.la f->upd H (z.la f) (.lst (vs.set j v)) c=some o:=λhc hn=>by rw[oA hn];exact hc
 have bx2:∀q,some q∈(s.put f j r).fr\/some q∈(s.put f j r).sr->q.bx∉z.four:=λq hq=>(FN hq).elim (λe=>hb q e.symm) (h.bx q);cases f with
 |true=>
  have e9:vs=vs1:=by rw[show z.la true=z.ly from rfl,f2] at hl;cases hl;rfl
  subst e9;have f4:=nl f4 (Ne.symm n1);rw[<-List.length_set (as:=s.fr) (i:=j) (a:=r)] at f5;have len:=h.len;have hh:=h.hh;rw[<-List.length_set (as:=s.fr) (i:=j) (a:=r)] at len hh;exact⟨⟨dx,ni h1⟩,⟨dx1,vs.set j v,ni f1,OA,cG hv2 j (oG hl f3 λq hq=>bx q (.inl hq)),f4,f5⟩,⟨dx2,vs2,ni g1,nl g2 (Ne.symm n2),oG hl g3 λq hq=>bx q (.inr hq),nl g4 (Ne.symm n3),g5⟩,h.n4,bx2,len,hh⟩
 |false=>
  have e9:vs=vs2:=by rw[show z.la false=z.ls from rfl,g2] at hl;cases hl;rfl
  subst e9;have g4:=nl g4 (Ne.symm n7);rw[<-List.length_set (as:=s.sr) (i:=j) (a:=r)] at g5;have len:=h.len;rw[<-List.length_set (as:=s.sr) (i:=j) (a:=r)] at len;exact⟨⟨dx,ni h1⟩,⟨dx1,vs1,ni f1,nl f2 n2,oG hl f3 λq hq=>bx q (.inl hq),nl f4 n5,f5⟩,⟨dx2,vs.set j v,ni g1,OA,cG hv2 j (oG hl g3 λq hq=>bx q (.inr hq)),g4,g5⟩,h.n4,bx2,len,h.hh⟩
theorem lA.num {C P S:Addr} {H:Hp} {z:Ss} {s s':St} {dx:Addr} (h:lA C P S H z s) (e:H z.p=some (.ins C dx (QC z.n z.fp z.sq s))) (e1:s'.fr=s.fr) (e2:s'.sr=s.sr) (e3:s'.h < s.fr.length) (e4:s'.tf=s.tf) (e5:s'.ts=s.ts):lA C P S (upd H z.p (.ins C dx (QC z.n z.fp z.sq s'))) z s':=by
 obtain⟨dx1,vs1,f1,f2,f3,f4,f5⟩:=id h.fr;obtain⟨dx2,vs2,g1,g2,g3,g4,g5⟩:=id h.sl;have ho:∀{c o},H c=some o->(∀D d fs,o=.ins D d fs->fs.lookup ("hand":Str)=none)->upd H z.p (.ins C dx (QC z.n z.fp z.sq s')) c=some o:=λ{c o} hc hn=>by
  rw[oA (λe9=>?_)]
  ·exact hc
  ·rw[e9,e] at hc;have:=hn _ _ _ (Option.some.inj hc).symm;rw[QL] at this;cases this
 have nl:∀{us D d fs},HO.lst us=.ins D d fs->fs.lookup ("hand":Str)=none:=λz=>nomatch z;have sp:∀{a b D d fs} {Q d2:Addr},HO.ins Q d2 (LH a b)=.ins D d fs->fs.lookup ("hand":Str)=none:=λz=>by cases z;exact qK ∅
 have sh:∀{v:V} {r:Option Sh},XA S H v r->XA S (upd H z.p (.ins C dx (QC z.n z.fp z.sq s'))) v r:=λ{v r} hv=>by
  cases r with
  |none=>exact hv
  |some r=>
   obtain⟨a,⟨d,h1⟩,h2,h3⟩:=hv;exact⟨a,⟨d,ho h1 λ_ _ _ z=>by cases z;exact KH ∅⟩,ho h2 λ_ _ _ z=>nl z,ho h3 λ_ _ _ z=>nomatch z⟩
 exact⟨⟨dx,OA⟩,⟨dx1,vs1,ho f1 λ_ _ _ z=>sp z,ho f2 λ_ _ _ z=>nl z,by rw[e1];exact Paired.mapP f3 λ_ _ q=>sh q,by rw[e4];exact ho f4 λ_ _ _ z=>nl z,by rw[e1,e4];exact f5⟩,⟨dx2,vs2,ho g1 λ_ _ _ z=>sp z,ho g2 λ_ _ _ z=>nl z,by rw[e2];exact Paired.mapP g3 λ_ _ q=>sh q,by rw[e5];exact ho g4 λ_ _ _ z=>nl z,by rw[e2,e5];exact g5⟩,h.n4,by rw[e1,e2];exact h.bx,by rw[e1,e2];exact h.len,by rw[e1];exact e3⟩
noncomputable def Ss.ta (z:Ss) (f:Bool):Addr:=if f=true then z.tw else z.ts
noncomputable def St.tn (s:St) (f:Bool):List (Option Nat):=if f=true then s.tf else s.ts
noncomputable def St.tie (s:St) (f:Bool) (j:Nat) (o:Option Nat):St:=if f=true then {s with tf:=s.tf.set j o} else {s with ts:=s.ts.set j o}
theorem NH {z:Ss} {f:Bool}:z.ta f∈z.four:=by cases f<;>simp[Ss.ta,Ss.four]
theorem lA.tie {C P S:Addr} {H:Hp} {z:Ss} {s:St} {f:Bool} {j:Nat} {o:Option Nat} (h:lA C P S H z s):lA C P S (upd H (z.ta f) (.lst (((s.tn f).map oV).set j (oV o)))) z (s.tie f j o):=by
 obtain⟨dx,h1⟩:=h.me;obtain⟨dx1,vs1,f1,f2,f3,f4,f5⟩:=id h.fr;obtain⟨dx2,vs2,g1,g2,g3,g4,g5⟩:=id h.sl;have n4:=h.n4;unfold Ss.four at n4;simp only[List.nodup_cons,List.mem_cons,List.not_mem_nil,or_false,not_or,not_false_eq_true,List.nodup_nil,and_true] at n4;obtain⟨⟨n1,n2,n3⟩,⟨n5,n6⟩,n7⟩:=n4;have hl:H (z.ta f)=some (.lst ((s.tn f).map oV)):=by cases f with|true=>exact f4|false=>exact g4
 have bx:∀q,some q∈s.fr\/some q∈s.sr->q.bx≠z.ta f:=λq hq e=>h.bx q hq (by rw[e];exact NH);have es:((s.tn f).map oV).set j (oV o)=((s.tn f).set j o).map oV:=by rw[List.map_set]
 rw[es];have ni:∀{c D dx fs},H c=some (.ins D dx fs)->upd H (z.ta f) (.lst (((s.tn f).set j o).map oV)) c=some (.ins D dx fs):=λhc=>by rw[oA (bC hc hl (λz=>nomatch z))];exact hc
 have nl:∀{c o'},H c=some o'->c≠z.ta f->upd H (z.ta f) (.lst (((s.tn f).set j o).map oV)) c=some o':=λhc hn=>by rw[oA hn];exact hc
 cases f with
 |true=>exact⟨⟨dx,ni h1⟩,⟨dx1,vs1,ni f1,nl f2 n1,oG hl f3 λq hq=>bx q (.inl hq),OA,by show (s.tf.set j o).length=_;rw[List.length_set];exact f5⟩,⟨dx2,vs2,ni g1,nl g2 (Ne.symm n5),oG hl g3 λq hq=>bx q (.inr hq),nl g4 (Ne.symm n6),g5⟩,h.n4,h.bx,h.len,h.hh⟩
 |false=>exact⟨⟨dx,ni h1⟩,⟨dx1,vs1,ni f1,nl f2 n3,oG hl f3 λq hq=>bx q (.inl hq),nl f4 n6,f5⟩,⟨dx2,vs2,ni g1,nl g2 n7,oG hl g3 λq hq=>bx q (.inr hq),OA,by show (s.ts.set j o).length=_;rw[List.length_set];exact g5⟩,h.n4,h.bx,h.len,h.hh⟩
noncomputable def jW (C:Addr):Sp:=λvs H Q _=>∃(s dx l h:Addr) (bs:List Int) (k:List Key),vs=[.ref s,.ref l,.ref h]/\H s=some (.ins C dx [])/\H l=some (.lst (bs.map V.int))/\H h=some (.tup (k.map kV))/\
 ∀bx hd H',H bx=none->H hd=none->Kp [s] H H'->H' s=some (.ins C dx (pK bx hd))->H' bx=some (.lst (bs.map V.int))->H' hd=some (.dT [(k,.bl true)])->Q .non H'
theorem RL (T:MB K mg A):BD P w K mg base "Sheet" A.Ac 1 ["self","boxes","holder"] [] (jW A.Ac):=by
 refine T.El.have nZ (λvs H Q E z=>?_) ?_
 ·obtain⟨s,dx,l,h,bs,k,rfl,_⟩:=z;rfl
 ·intro f cdv A' outer s H vs Q E hr z;obtain⟨s,dx,l,h,bs,k,rfl,hs,hl,hh,q⟩:=z;refine⟨_,(aB (yE (aA 0) (cK fL rfl T.Bd PyProof.Rows.boot_list (dA (aA 1) nA)) rfl)
   (BA (yE (aA 0) (xY (BO hr) (aA 2) kG) rfl))),?_⟩
  unfold QF;rfl';refine⟨_,.inl (kA.of hl),λbx hbx=>?_⟩;have b1:=HB (o:=.lst (bs.map V.int)) (iB (H:=H)) hbx;have nsb:s≠bx:=BB hs hbx;refine⟨A.Ac,dx,[],b1 _ _ hs,T.An,T.Au,by decide,λhd hhd=>?_⟩;have nhs:hd≠s:=λz=>by rw[z,OA] at hhd;cases hhd
  have nhb:hd≠bx:=λz=>by rw[z,oA nsb.symm,OA] at hhd;cases hhd
  have hhd0:H hd=none:=by rw[oA nhs] at hhd;exact NB b1 hhd
  have nhh:h≠hd:=BB hh hhd0;have nhs2:h≠s:=bC hh hs (λz=>nomatch z);refine⟨k,by rw[oA nhh,oA nhs2];exact b1 _ _ hh,A.Ac,dx,AA "boxes" (.ref bx) [],by rw[oA nhs.symm,OA],T.An,T.Av,by show 1 < 1000;decide,?_⟩;refine q bx hd _ hbx hhd0 (λc o hc hx=>?_) OA ?_ ?_
  ·have ncs:c≠s:=λz=>hx (by simp[z]);rw[oA ncs,oA (BB hc hhd0),oA ncs];exact b1 _ _ hc
  ·rw[oA nsb.symm,oA nhb.symm,oA nsb.symm,OA]
  ·rw[oA nhs,OA]
theorem sK {α β:Type} {F:α->β->Prop} {G:β->α->Prop}:∀{xs:List α} {ys:List β},Paired F xs ys->(∀x y,F x y->G y x)->Paired G ys xs
 |_,_,.nil,_=>.nil
 |_,_,.cons r t,h=>.cons (h _ _ r) (sK t h)
noncomputable def nF (k:List Key):List (List Key)->List (List Key)
 |[]=>[k]
 |x::r=>if DC k x=true then k::x::r else x::nF k r
noncomputable def yB:List (List Key)->List (List Key)
 |[]=>[]
 |k::r=>nF k (yB r)
theorem mQ {k:List Key}:∀{l:List (List Key)},(nF k l).Perm (k::l)
 |[]=>List.Perm.refl _
 |x::r=>by
  unfold nF
  split
  ·exact List.Perm.refl _
  ·exact (List.Perm.cons x (mQ (l:=r))).trans (List.Perm.swap ..)
theorem lE:∀{l:List (List Key)},(yB l).Perm l
 |[]=>List.Perm.refl _
 |k::r=>(mQ (l:=yB r)).trans (List.Perm.cons k lE)
theorem kW {k:List Key} (hk:eC k):∀{l:List (List Key)},(∀x∈l,eC x)->k∉l->l.Pairwise (DC · ·=true)->(nF k l).Pairwise (DC · ·=true)
 |[],_,_,_=>List.pairwise_singleton _ _
 |x::r,ht,hn,h=>by
  unfold nF;have hx:=ht x (List.mem_cons_self ..);obtain⟨h1,h2⟩:=List.pairwise_cons.mp h
  split
  ·rename_i c;refine List.pairwise_cons.mpr ⟨λy hy=>?_,h⟩;rcases List.mem_cons.mp hy with rfl|hy
   ·exact c
   ·exact QO hk hx (ht y (List.mem_cons_of_mem _ hy)) c (h1 y hy)
  ·rename_i c;have c2:DC x k=true:=(PO hk hx (λe=>hn (by rw[e];exact List.mem_cons_self ..))).resolve_left c;refine List.pairwise_cons.mpr ⟨λy hy=>?_,kW hk (λy hy=>ht y (List.mem_cons_of_mem _ hy)) (λz=>hn (List.mem_cons_of_mem _ z)) h2⟩;rcases List.mem_cons.mp (mQ.mem_iff.mp hy) with rfl|hy
   ·exact c2
   ·exact h1 y hy
theorem nQ:∀{l:List (List Key)},(∀x∈l,eC x)->l.Nodup->(yB l).Pairwise (DC · ·=true)
 |[],_,_=>.nil
 |k::r,ht,hn=>kW (ht k (List.mem_cons_self ..)) (λx hx=>ht x (List.mem_cons_of_mem _ (lE.mem_iff.mp hx))) (λz=>(List.nodup_cons.mp hn).1 (lE.mem_iff.mp z)) (nQ (λx hx=>ht x (List.mem_cons_of_mem _ hx)) (List.nodup_cons.mp hn).2)
theorem GN {l ks:List (List Key)} (ht:∀x∈l,eC x) (hn:l.Nodup) (hp:ks.Perm l) (hu:ks.Pairwise (DC · ·=true)):ks=yB l:=
 lV (hp.trans lE.symm) (λk hk=>ht k (hp.mem_iff.mp hk)) hu (nQ ht hn)
noncomputable def FD (H:Hp) (l:Addr) (ks:List (List Key)):Prop:=∃us,H l=some (.lst us)/\Paired (λv k=>∃a,v=V.ref a/\H a=some (.tup (k.map kV))) us ks
theorem FD.same {H H':Hp} {l:Addr} {ks:List (List Key)} (h:FD H l ks) (s:iA H H'):FD H' l ks:=let ⟨us,h1,h2⟩:=h;⟨us,s _ _ h1,Paired.mapP h2 λ_ _ ⟨a,e,q⟩=>⟨a,e,s _ _ q⟩⟩
noncomputable def vF (ks:List (List Key)):Prop:=ks.length < 640/\ks.Nodup/\∀k∈ks,eC k
noncomputable def IE (r:Sh):Prop:=vF r.ks
noncomputable def HN (C:Addr):Sp:=λvs H Q _=>∃(v:V) (r:Sh),vs=[v]/\XA C H v (some r)/\IE r/\∀l H',H l=none->iA H H'->FD H' l (yB r.ks)->Q (.ref l) H'
theorem IN (T:MB K mg A):FA P w K mg base A.Ac "told_holders" 1 ["self"] [] (HN A.Ac):=by
 refine T.Bh.have oZ (λvs H Q E z=>?_) ?_
 ·obtain⟨v,r,rfl,_⟩:=z;rfl
 ·intro f cdv A' outer s H vs Q E hr z;obtain⟨v,r,rfl,⟨rfl,⟨dx,h1⟩,h2,h3⟩,⟨h64,hnd,htr⟩,q⟩:=z;refine⟨_,(BA (zB (DB (lZ rfl) rfl T.Dc PyProof.Rows.boot_sorted (dA (LA (aA 0) rfl) nA)))),?_⟩;rfl';simp only[h1];rfl';have ek:(RC r.ks).map (·.1)=r.ks:=by unfold RC;rw[List.map_map];exact List.map_id _
  refine⟨T.An,T.Av,_,lQ,r.hd,rfl,RC r.ks,h3,λkv hkv=>?_,λl us ks hl hks hpm hup=>?_⟩
  ·exact htr _ (by rw[<-ek];exact List.mem_map.mpr ⟨kv,hkv,rfl⟩)
  ·rw[ek] at hpm;rw[GN htr hnd hpm hup] at hks;refine q l _ hl (HB iB hl) ⟨us,OA,?_⟩;exact sK hks λ_ _ ⟨a,e,h⟩=>⟨a,e,(HB iB hl) _ _ h⟩
noncomputable def lW (C:Addr):Sp:=λvs H Q _=>∃(s dx:Addr) (n:Nat),vs=[.ref s,.int n]/\H s=some (.ins C dx [])/\n<=640/\
 ∀ly tw H',H ly=none->H tw=none->ly≠tw->Kp [s] H H'->H' s=some (.ins C dx (LH ly tw))->H' ly=some (.lst (List.replicate n V.non))->H' tw=some (.lst (List.replicate n V.non))->Q .non H'
theorem SL (T:MB K mg A):BD P w K mg base "Spots" A.Ad 1 ["self","many"] [] (lW A.Ad):=by
 refine T.Em.have qZ (λvs H Q E z=>?_) ?_
 ·obtain⟨s,dx,n,rfl,_⟩:=z;rfl
 ·intro f cdv A' outer s H vs Q E hr z;obtain⟨s,dx,n,rfl,hs,hn,q⟩:=z;refine⟨_,(aB (yE (aA 0) (VA wU (UC (dA lB nA)) (aA 1)) rfl)
   (BA (yE (aA 0) (VA wU (UC (dA lB nA)) (aA 1)) rfl))),?_⟩
  unfold rRep;rfl';have e:∀k:Nat,(List.replicate k [V.non]).flatten=List.replicate k V.non:=λk=>by
   induction k with
   |zero=>rfl
   |succ k ih=>rw[List.replicate_succ,List.flatten_cons,ih];rfl
  intro l1 hl1;have b1:=HB (o:=.lst [V.non]) (iB (H:=H)) hl1;refine⟨[.non],rfl,⋯,⋯,by show 1 * n<=16777216;omega,λly hly=>?_⟩;rw[Int.toNat_natCast,e];have hly0:=NB b1 hly;have b2:=HB (o:=.lst (List.replicate n V.non)) b1 hly;have nsl:s≠ly:=BB hs hly0;refine⟨A.Ad,dx,[],b2 _ _ hs,T.Ae,T.Ag,by decide,λl2 hl2=>?_⟩;have k3:∀c o,H c=some o->c≠s->upd (upd (upd H l1 (.lst [V.non])) ly (.lst (List.replicate n V.non))) s (.ins A.Ad dx (AA "lying" (.ref ly) [])) c=some o:=λc o hc hn=>by rw[oA hn];exact b2 _ _ hc
  have hs3:upd (upd (upd H l1 (.lst [V.non])) ly (.lst (List.replicate n V.non))) s (.ins A.Ad dx (AA "lying" (.ref ly) [])) s=some (.ins A.Ad dx (AA "lying" (.ref ly) [])):=OA;have hly3:upd (upd (upd H l1 (.lst [V.non])) ly (.lst (List.replicate n V.non))) s (.ins A.Ad dx (AA "lying" (.ref ly) [])) ly=some (.lst (List.replicate n V.non)):=by rw[oA nsl.symm,OA]
  have n3:∀c,upd (upd (upd H l1 (.lst [V.non])) ly (.lst (List.replicate n V.non))) s (.ins A.Ad dx (AA "lying" (.ref ly) [])) c=none->H c=none/\c≠s:=λc hc=>by
   have ncs:c≠s:=λz=>by rw[z,OA] at hc;cases hc
   rw[oA ncs] at hc;exact⟨NB b2 hc,ncs⟩
  generalize upd (upd (upd H l1 (.lst [V.non])) ly (.lst (List.replicate n V.non))) s (.ins A.Ad dx (AA "lying" (.ref ly) []))=H3 at *;have c4:=HB (o:=.lst [V.non]) (iB (H:=H3)) hl2;refine⟨[.non],rfl,⋯,⋯,by show 1 * n<=16777216;omega,λtw htw=>?_⟩;rw[e];have c5:=HB (o:=.lst (List.replicate n V.non)) c4 htw;have htw3:=NB c4 htw;refine⟨A.Ad,dx,AA "lying" (.ref ly) [],c5 _ _ hs3,T.Ae,T.Ai,by show 1 < 1000;decide,?_⟩;have nts:=(n3 tw htw3).2;refine q ly tw _ hly0 (n3 tw htw3).1 (BB hly3 htw3) (λc o hc hx=>?_) OA (by rw[oA nsl.symm];exact c5 _ _ hly3) (by rw[oA nts,OA]);have ncs:c≠s:=λz=>hx (by simp[z]);rw[oA ncs];exact c5 _ _ (k3 c o hc ncs)
noncomputable def aC (rows:List (Option Sh)) (tws:List (Option Nat)):Option Nat:=(rows.zip tws).findIdx? λp=>p.1.isNone&&p.2.isNone
noncomputable def fe (rows:List (Option Sh)) (tws:List (Option Nat)):V:=match aC rows tws with
 |none=>.non
 |some j=>.int (j:Int)
noncomputable def OH (C S:Addr):Sp:=λvs H Q _=>∃(p ly tw:Addr) (rows:List (Option Sh)) (tws:List (Option Nat)),vs=[.ref p]/\kE C S H p ly tw rows tws/\∀H',iA H H'->Q (fe rows tws) H'
theorem TL (T:MB K mg A):FA P w K mg base A.Ad "first_empty" 1 ["self"] [] (OH A.Ad A.Ac):=by
 refine T.Bo.have mP (λvs H Q E z=>?_) ?_
 ·obtain⟨p,ly,tw,rows,tws,rfl,_⟩:=z;rfl
 ·intro f cdv A' outer s H vs Q E hr z;obtain⟨p,ly,tw,rows,tws,rfl,⟨dx,us,h1,h2,h3,h4,h5⟩,q⟩:=z;refine⟨_,(aB (rF PassesOwn.leaving rfl (RU rfl T.Db (dA (LA (aA 0) rfl) nA)) (XT (n:=2) rfl (NM (wC (i:=1) mP.nd rfl (Or.inl rfl)) (NM (wC (i:=2) mP.nd rfl (Or.inl rfl)) WT))) (BA (GB (PW.pt (QE (qB LD (aA 2) lB (gA _)) (OE (qB LD (yA SA (LA (aA 0) rfl) (aA 1) (λ_ _=>rfl)) lB (gA _))))) (BA (zB (aA 1))) XB)))
   (BA (zB lB))),?_⟩
  rfl';simp only[h1];rfl';have hul:=Paired.length h3;have hzl:(rows.zip tws).length=rows.length:=by rw[List.length_zip];omega
  refine⟨T.Ae,T.Ag,_,lD,ly,rfl,⟨_,kA.of h2⟩,SU (xs:=us) (λi σ H'=>∃v1 v2,σ=[some (.ref p),v1,v2]/\iA H H'/\∀(j:Nat) y,j < i->(rows.zip tws)[j]?=some y->(y.1.isNone&&y.2.isNone)=false) ⟨_,_,rfl,iB,λj r h=>absurd h (Nat.not_lt_zero _)⟩ (λi σ H' _ ⟨_,_,_,e,_⟩=>kA.of (e _ _ h2)) (λi x tt σ H' hi=>?_) (λσ H1=>?_)⟩
  ·rintro⟨v1,v2,rfl,s1,hno⟩ ht;obtain⟨y,hy1,hy2⟩:=jE h3 hi;have b1:=HB (o:=.tup [V.int i,x]) s1 ht;have hil:i < rows.length:=(List.getElem?_eq_some_iff.mp hy1).1;obtain⟨o,ho⟩:∃o,tws[i]?=some o:=⟨_,List.getElem?_eq_getElem ⋯⟩
   have hzi:(rows.zip tws)[i]?=some (y,o):=by rw[List.getElem?_zip_eq_some];exact⟨hy1,ho⟩
   have go:(y.isNone&&o.isNone)=false->∀(j:Nat) y,j < i+1->(rows.zip tws)[j]?=some y->(y.1.isNone&&y.2.isNone)=false:=λhb j y' hj hy=>by
    rcases (by omega:j < i\/j=i) with h|rfl
    ·exact hno j y' h hy
    ·rw[hzi] at hy;cases hy;exact hb
   cases y with
   |none=>
    obtain rfl:x=.non:=hy2;rfl';refine⟨_,cB.of OA,rfl,_,_,rfl,_,_,rfl,rfl,?_⟩;rw[if_pos rfl];refine⟨A.Ad,dx,_,b1 _ _ h1,T.Ae,T.Ai,_,sE,tw,rfl,_,_,rfl,kA.of (b1 _ _ h4),oV o,xA (by rw[List.getElem?_map,ho];rfl),?_⟩;cases o with
    |none=>
     rw[if_pos (show oV none=V.non from rfl)];have e:fe rows tws=.int (i:Int):=by
      have e:aC rows tws=some i:=List.findIdx?_eq_some_iff_getElem.mpr ⟨⋯,by rw[(List.getElem?_eq_some_iff.mp hzi).2];rfl,λj hj=>by
       rw[hno j _ hj (List.getElem?_eq_getElem ⋯)];decide⟩
      unfold fe;rw[e]
     have hq:=q _ b1;rw[e] at hq;exact hq
    |some j=>
     rw[if_neg (λz=>nomatch z)];exact⟨b1,go rfl⟩
   |some r=>
    obtain⟨rfl,_⟩:=hy2;rfl';refine⟨_,cB.of OA,rfl,_,_,rfl,_,_,rfl,rfl,?_⟩;rw[if_neg (λz=>nomatch z)];exact UA ⟨b1,go rfl⟩
  rintro⟨v1,v2,rfl,s1,hno⟩;rfl';have e:fe rows tws=.non:=by
   have e:aC rows tws=none:=List.findIdx?_eq_none_iff.mpr λy hy=>by
    obtain⟨j,hj⟩:=List.mem_iff_getElem?.mp hy;exact hno j y (by rw[hul,<-hzl];exact (List.getElem?_eq_some_iff.mp hj).1) hj
   unfold fe;rw[e]
  rw[<-e];exact q _ s1
noncomputable def kC (rows:List (Option Sh)):Nat:=(rows.filter Option.isSome).length
noncomputable def PH (C S:Addr):Sp:=λvs H Q _=>∃(p ly tw:Addr) (rows:List (Option Sh)) (tws:List (Option Nat)),vs=[.ref p]/\kE C S H p ly tw rows tws/\rows.length<=640/\∀H',iA H H'->Q (.int (kC rows:Nat)) H'
theorem oQ (T:MB K mg A):FA P w K mg base A.Ad "live_count" 1 ["self"] [] (PH A.Ad A.Ac):=by
 refine T.B3.have rZ (λvs H Q E z=>?_) ?_
 ·obtain⟨p,ly,tw,rows,tws,rfl,_⟩:=z;rfl
 ·intro f cdv A' outer s H vs Q E hr z;obtain⟨p,ly,tw,rows,tws,rfl,⟨dx,us,h1,h2,h3,h4,_⟩,hlen,q⟩:=z;refine⟨_,(BA (zB (DB yC rfl T.Aj PySem.boot_len (dA (sF rfl (qF (LA (aA 0) rfl)) (x:="sheet") (fs:=[]) (ix:=[]) rfl rfl (λ_ _ _ _ _ _=>(wC (i:=0) (show (["sheet"]:List Str).Nodup by decide+kernel) rfl (Or.inl rfl))) (λ_ _ _ _ _ _=>(FI (qB MD (aA 0) lB (gA _)))) (λ_ _ _ _ _ _=>(aA 0))) nA)))),?_⟩;rfl';simp only[h1];rfl';have hul:=Paired.length h3;refine⟨T.Ae,T.Ag,_,lD,ly,rfl,⟨_,kA.of h2⟩,λD hD=>GI (xs:=us) (λi ys σ H'=>∃v,σ=[v]/\iA H H'/\H' D=some (.lst ys)/\ys.length=kC (rows.take i)) ⟨_,rfl,HB iB hD,OA,rfl⟩ (λi ys σ H' _ ⟨_,_,s2,_⟩=>kA.of (s2 _ _ h2)) (λi v ys σ H' hi=>?_) (λys σ H'=>?_)⟩
  ·rintro⟨v0,rfl,s1,hD1,hy⟩;obtain⟨y,hy1,hy2⟩:=jE h3 hi;have htk:rows.take (i+1)=rows.take i++[y]:=by rw[List.take_add_one,hy1];rfl
   have hc:kC (rows.take (i+1))=kC (rows.take i)+(if y.isSome=true then 1 else 0):=by
    unfold kC;rw[htk,List.filter_append,List.length_append];cases y<;>rfl
   have hle:kC (rows.take i)<=640:=by
    unfold kC;exact Nat.le_trans (List.length_filter_le _ _) (by rw[List.length_take];omega)
   have hz:=PySem.sizeLine_eq;cases y with
   |none=>
    obtain rfl:v=.non:=hy2;rfl';exact UA ⟨s1,hD1,by rw[hc];exact hy⟩
   |some r=>
    obtain⟨rfl,_⟩:=hy2;rfl';exact ZB ⟨hD1,⋯,ZC s1 hD,by rw[List.length_append,hc,hy];rfl⟩
  ·rintro⟨v0,rfl,s1,hD1,hy⟩;rw[hul,List.take_length] at hy;refine⟨_,.inl ⟨_,kA.of hD1,rfl⟩,?_⟩;rw[hy];exact q _ s1
noncomputable def nD (tws:List (Option Nat)):Option Nat:=tws.findSome? id
noncomputable def UL (C S:Addr):Sp:=λvs H Q _=>∃(p ly tw:Addr) (rows:List (Option Sh)) (tws:List (Option Nat)),vs=[.ref p]/\kE C S H p ly tw rows tws/\∀H',iA H H'->Q (oV (nD tws)) H'
theorem pQ (T:MB K mg A):FA P w K mg base A.Ad "first_twin" 1 ["self"] [] (UL A.Ad A.Ac):=by
 refine T.B1.have QV (λvs H Q E z=>?_) ?_
 ·obtain⟨p,ly,tw,rows,tws,rfl,_⟩:=z;rfl
 ·intro f cdv A' outer s H vs Q E hr z;obtain⟨p,ly,tw,rows,tws,rfl,⟨dx,us,h1,h2,h3,h4,_⟩,q⟩:=z;refine⟨_,(aB (rF PassesOwn.leaving rfl (qF (LA (aA 0) rfl)) (wC (i:=1) QV.nd rfl (Or.inl rfl)) (BA (GB (qB MD (aA 1) lB (gA _)) (BA (zB (aA 1))) XB)))
   (BA (zB lB))),?_⟩
  rfl';simp only[h1];rfl';refine⟨T.Ae,T.Ai,_,sE,tw,rfl,⟨_,kA.of h4⟩,lL (xs:=tws.map oV) (λi σ H'=>∃v1,σ=[some (.ref p),v1]/\iA H H'/\nD tws=nD (tws.drop i)) ⟨_,rfl,iB,rfl⟩ (λi σ H' _ ⟨_,_,e,_⟩=>kA.of (e _ _ h4)) (λi x σ H' hi=>?_) (λσ H1=>?_)⟩
  ·rintro⟨v1,rfl,s1,hd⟩;rw[List.getElem?_map] at hi;obtain⟨o,ho,rfl⟩:=Option.map_eq_some_iff.mp hi;have hdr:tws.drop i=o::tws.drop (i+1):=by
    obtain⟨q1,q2⟩:=List.getElem?_eq_some_iff.mp ho;rw[<-q2];exact List.drop_eq_getElem_cons q1
   rfl';cases o with
   |none=>exact UA ⟨s1,by rw[hd,hdr];rfl⟩
   |some j=>
    refine ZB ?_;have e:nD tws=some j:=by rw[hd,hdr];rfl
    have:=q _ s1;rw[e] at this;exact this
  ·rintro⟨v1,rfl,s1,hd⟩;rw[List.length_map,List.drop_length] at hd;rfl';have:=q _ s1;rw[hd] at this;exact this
theorem XE {rows:List (Option Sh)} {a:Addr}:a∈SB rows↔∃r,some r∈rows/\r.hd=a:=by
 unfold SB;rw[List.mem_filterMap];refine⟨λ⟨x,hx,e⟩=>?_,λ⟨r,hr,e⟩=>⟨some r,hr,by rw[<-e];rfl⟩⟩;cases x with
 |none=>cases e
 |some r=>exact⟨r,hx,Option.some.inj e⟩
theorem JE {α β:Type} {F:α->β->Prop} {xs:List α} {ys:List β} {x:α} {y:β} (h:Paired F xs ys) (hx:F x y):Paired F (xs++[x]) (ys++[y]):=by
 induction h with
 |nil=>exact .cons hx .nil
 |cons r t ih=>exact .cons r ih
theorem pD {n j:Nat} (h:j < n):AF n (j:Int)=some j:=by
 unfold AF;rw[if_pos ⋯,if_pos ⋯];rfl
theorem FH {rows:List (Option Sh)}:kC rows<=rows.length:=List.length_filter_le _ _
noncomputable def wB (s:St):Nat:=kC s.fr+kC s.sr
noncomputable def room (s:St):Nat:=s.fr.length+s.sr.length
noncomputable def rJ (C P S:Addr):Sp:=λvs H Q _=>∃(s dx:Addr) (n m:Nat) (z:Int),vs=[.ref s,.int n,.int m,.int z]/\H s=some (.ins C dx [])/\1<=n/\n<=640/\m<=640/\
 ∀H' y,lA C P S H' y ⟨List.replicate n none,List.replicate m none,0,0,0,0,List.replicate n none,List.replicate m none⟩->y.p=s->(∀c∈y.four,H c=none)->Kp [s] H H'->Q .non H'
theorem VL (T:MB K mg A):BD P w K mg base "Sheets" A.Aa 3 ["self","frames","slots","size"] [] (rJ A.Aa A.Ad A.Ac):=by
 have Ch:=@SL P w K mg base A T;refine T.D5.have sZ (λvs H Q E z=>?_) ?_
 ·obtain⟨s,dx,n,m,z,rfl,_⟩:=z;rfl
 ·intro f cdv A' outer s H vs Q E hr z;obtain⟨s,dx,n,m,z,rfl,hs,hn0,hn,hm,q⟩:=z;refine⟨_,(aB (yE (aA 0) (aA 3) rfl)
   (nB (yE (aA 0) (VM Ch (hr.mono (by decide)) ZA (dA (aA 1) nA)) rfl)
   (aB (yE (aA 0) (VM Ch (hr.mono (by decide)) ZA (dA (aA 2) nA)) rfl)
   (aB (yE (aA 0) rA rfl)
   (aB (yE (aA 0) rA rfl)
   (aB (yE (aA 0) rA rfl)
   (BA (yE (aA 0) rA rfl)))))))),?_⟩
  unfold lW;rfl';refine⟨A.Aa,dx,[],hs,T.Ab,T.Dr,by decide,?_⟩;have hs1:upd H s (.ins A.Aa dx (AA "size" (.int z) [])) s=some (.ins A.Aa dx (AA "size" (.int z) [])):=OA;have k1:∀c o,H c=some o->c≠s->upd H s (.ins A.Aa dx (AA "size" (.int z) [])) c=some o:=λc o hc hn=>by rw[oA hn];exact hc
  have n1:∀c,upd H s (.ins A.Aa dx (AA "size" (.int z) [])) c=none->H c=none/\c≠s:=λc hc=>by
   have ncs:c≠s:=λz=>by rw[z,OA] at hc;cases hc
   rw[oA ncs] at hc;exact⟨hc,ncs⟩
  generalize upd H s (.ins A.Aa dx (AA "size" (.int z) []))=H1 at *;refine wA (λσ H'=>∃fp fdx ly tw H2,σ=[some (.ref s),some (.int (n:Int)),some (.int (m:Int)),some (.int z)]/\H1 fp=none/\H1 ly=none/\H1 tw=none/\ly≠tw/\iA H1 H2/\H2 fp=some (.ins A.Ad fdx (LH ly tw))/\H2 ly=some (.lst (List.replicate n V.non))/\H2 tw=some (.lst (List.replicate n V.non))/\H'=upd H2 s (.ins A.Aa dx (AA "frames" (.ref fp) (AA "size" (.int z) [])))) ?_ λU9 D9 hU9 hD9 σ' H'=>?_
  ·rfl';intro fp fdx hfp hfdx hne;refine⟨fdx,n,rfl,rfl,hn,λly tw H2 hly htw hlt kp2 a1 a2 a3=>?_⟩;have sm:=WM (o:=.ins A.Ad fdx []) hfp hfdx hne;have s12:iA H1 H2:=λc o hc=>kp2 c o (sm c o hc) (λz=>BB hc hfp (List.mem_singleton.mp z));exact⟨A.Aa,dx,_,s12 _ _ hs1,T.Ab,T.Af,by show 1 < 1000;decide,fp,hfp,fdx,ly,NB sm hly,tw,NB sm htw,hlt,H2,s12,a1,a2,a3,rfl⟩
  rintro⟨fp,fdx,ly,tw,H2,rfl,hfp,hly1,htw1,hlt,s12,a1,a2,a3,rfl⟩;subst hU9 hD9;rfl';have k3:∀c o,H2 c=some o->c≠s->upd H2 s (.ins A.Aa dx (AA "frames" (.ref fp) (AA "size" (.int z) []))) c=some o:=λc o hc hn=>by rw[oA hn];exact hc
  have hs3:upd H2 s (.ins A.Aa dx (AA "frames" (.ref fp) (AA "size" (.int z) []))) s=some (.ins A.Aa dx (AA "frames" (.ref fp) (AA "size" (.int z) []))):=OA;have n3:∀c,upd H2 s (.ins A.Aa dx (AA "frames" (.ref fp) (AA "size" (.int z) []))) c=none->H2 c=none:=λc hc=>by
   have ncs:c≠s:=λz=>by rw[z,OA] at hc;cases hc
   rw[oA ncs] at hc;exact hc
  generalize upd H2 s (.ins A.Aa dx (AA "frames" (.ref fp) (AA "size" (.int z) [])))=H3 at *;intro sq sdx hsq hsdx hne2;refine⟨sdx,m,rfl,rfl,hm,λls ts H4 hls hts hlt2 kp4 c1 c2 c3=>?_⟩;have sm2:=WM (o:=.ins A.Ad sdx []) hsq hsdx hne2;have s34:iA H3 H4:=λc o hc=>kp4 c o (sm2 c o hc) (λz=>BB hc hsq (List.mem_singleton.mp z));refine⟨A.Aa,dx,_,s34 _ _ hs3,T.Ab,T.Ah,by show 2 < 1000;decide,T.Ab,T.A0,by show 3 < 1000;decide,T.Ab,T.As,by show 4 < 1000;decide,T.Ab,T.Aq,by show 5 < 1000;decide,T.Ab,T.Ar,by show 6 < 1000;decide,?_⟩;have nfs:=(n1 fp hfp).2;have nls:=(n1 ly hly1).2;have nts:=(n1 tw htw1).2;have g1:=s34 _ _ (k3 _ _ a1 nfs);have g2:=s34 _ _ (k3 _ _ a2 nls);have g3:=s34 _ _ (k3 _ _ a3 nts);have hls3:=NB sm2 hls;have hts3:=NB sm2 hts;have nls2:ls≠s:=λz=>by rw[z,hs3] at hls3;cases hls3
  have nts2:ts≠s:=λz=>by rw[z,hs3] at hts3;cases hts3
  have nsq:sq≠s:=λz=>by rw[z,hs3] at hsq;cases hsq
  have e1:∀(kk:Nat) (HH:Hp),WB A.Ac HH (List.replicate kk V.non) (List.replicate kk none):=λkk HH=>by
   induction kk with
   |zero=>exact .nil
   |succ k ih=>exact .cons rfl ih
  have er:∀k:Nat,(List.replicate k (none:Option Nat)).map oV=List.replicate k V.non:=λk=>by rw[List.map_replicate];rfl
  have hls2:=n3 ls hls3;have hts2:=n3 ts hts3;have nlsl:=BB (k3 _ _ a2 nls) hls3;have nlst:=BB (k3 _ _ a2 nls) hts3;have ntsl:=BB (k3 _ _ a3 nts) hls3;have ntst:=BB (k3 _ _ a3 nts) hts3;refine q _ ⟨s,fp,ly,tw,sq,ls,ts,z⟩ ⟨⟨dx,OA⟩,⟨fdx,_,by rw[oA nfs];exact g1,by rw[oA nls];exact g2,e1 n _,by rw[oA nts,er];exact g3,by rw[List.length_replicate,List.length_replicate]⟩,⟨sdx,_,by rw[oA nsq];exact c1,by rw[oA nls2];exact c2,e1 m _,by rw[oA nts2,er];exact c3,by rw[List.length_replicate,List.length_replicate]⟩,?_,λr hr=>hr.elim (λh=>absurd (List.eq_of_mem_replicate h) (λz=>nomatch z)) (λh=>absurd (List.eq_of_mem_replicate h) (λz=>nomatch z)),by show (List.replicate n none).length<=640/\(List.replicate m none).length<=640;rw[List.length_replicate,List.length_replicate];exact⟨hn,hm⟩,by show 0 < (List.replicate n none).length;rw[List.length_replicate];exact hn0⟩ rfl (λc hc=>?_) (λc o hc hx=>?_)
  ·show [ly,tw,ls,ts].Nodup;simp only[List.nodup_cons,List.mem_cons,List.not_mem_nil,or_false,not_or,not_false_eq_true,List.nodup_nil,and_true];exact⟨⟨hlt,nlsl,nlst⟩,⟨ntsl,ntst⟩,hlt2⟩
  ·have hc:c∈[ly,tw,ls,ts]:=hc;simp only[List.mem_cons,List.not_mem_nil,or_false] at hc;rcases hc with rfl|rfl|rfl|rfl
   ·exact (n1 _ hly1).1
   ·exact (n1 _ htw1).1
   ·exact (n1 _ (NB s12 hls2)).1
   ·exact (n1 _ (NB s12 hts2)).1
  ·have ncs:c≠s:=λz=>hx (by simp[z]);rw[oA ncs];exact s34 _ _ (k3 _ _ (s12 _ _ (k1 c o hc ncs)) ncs)
noncomputable def qQ (C P S:Addr):Sp:=λvs H Q _=>∃(z:Ss) (s:St),vs=[.ref z.p]/\lA C P S H z s/\∀H',iA H H'->Q (.int (wB s:Nat)) H'
theorem mW (T:MB K mg A):FA P w K mg base A.Aa "live_sheets" 2 ["self"] [] (qQ A.Aa A.Ad A.Ac):=by
 have Bb:=@oQ P w K mg base A T;refine T.Bi.have tZ (λvs H Q E z=>?_) ?_
 ·obtain⟨z,s,rfl,_⟩:=z;rfl
 ·intro f cdv A' outer s H vs Q E hr z;obtain⟨z,s,rfl,hS,q⟩:=z;obtain⟨dx,h1⟩:=hS.me;refine⟨_,(BA (zB (VA zD (vD (LA (aA 0) rfl) T.Ae Bb (hr.mono (by decide)) ZA) (vD (LA (aA 0) rfl) T.Ae Bb (hr.mono (by decide)) ZA)))),?_⟩;unfold PH;rfl';simp only[h1];rfl';obtain⟨dx1,vs1,f1,_⟩:=id hS.fr;refine⟨T.Ab,T.Af,_,wD,z.fp,rfl,dx1,_,f1,qK ∅,z.fp,rfl,z.ly,z.tw,s.fr,s.tf,hS.fr,hS.len.1,λH1 s1=>?_⟩;obtain⟨dx2,vs2,f2,_⟩:=id hS.sl;refine⟨_,dx,_,s1 _ _ h1,T.Ab,T.Ah,_,YD,z.sq,rfl,dx2,_,s1 _ _ f2,qK ∅,z.sq,rfl,z.ls,z.ts,s.sr,s.ts,hS.sl.same s1,hS.len.2,λH2 s2=>?_⟩;exact q _ (s1.trans s2)
noncomputable def nW (C P S:Addr):Sp:=λvs H Q _=>∃(z:Ss) (s:St),vs=[.ref z.p]/\lA C P S H z s/\∀H',iA H H'->Q (.bl (decide ((wB s:Int)>=(s.fr.length:Int)+(s.sr.length:Int)))) H'
theorem tJ (T:MB K mg A):FA P w K mg base A.Aa "is_full" 3 ["self"] [] (nW A.Aa A.Ad A.Ac):=by
 have Aw:=@mW P w K mg base A T;refine T.Dd.have uZ (λvs H Q E z=>?_) ?_
 ·obtain⟨z,s,rfl,_⟩:=z;rfl
 ·intro f cdv A' outer s H vs Q E hr z;obtain⟨z,s,rfl,hS,q⟩:=z;obtain⟨dx,h1⟩:=hS.me;refine⟨_,(BA (zB (uI YK (vD (aA 0) T.Ab Aw (hr.mono (by decide)) ZA) (VA zD (DB yC rfl T.Aj PySem.boot_len (dA (LA (LA (aA 0) rfl) rfl) nA)) (DB yC rfl T.Aj PySem.boot_len (dA (LA (LA (aA 0) rfl) rfl) nA))) (gA _)))),?_⟩;unfold qQ;rfl';simp only[h1];rfl';obtain⟨dx1,vs1,f1,f2,f3,f4⟩:=id hS.fr;obtain⟨dx2,vs2,g1,g2,g3,g4⟩:=id hS.sl;have l1:=Paired.length f3;have l2:=Paired.length g3;refine⟨EC ∅,z,rfl,s,hS,λH1 s1=>⟨_,dx,_,s1 _ _ h1,T.Ab,T.Af,_,wD,z.fp,rfl,_,dx1,_,s1 _ _ f1,T.Ae,T.Ag,_,lD,_,.inl ⟨_,kA.of (s1 _ _ f2),rfl⟩,_,dx,_,s1 _ _ h1,T.Ab,T.Ah,_,YD,z.sq,rfl,_,dx2,_,s1 _ _ g1,T.Ae,T.Ag,_,lD,_,.inl ⟨_,kA.of (s1 _ _ g2),rfl⟩,?_⟩⟩;rw[l1,l2];exact q _ s1
noncomputable def rQ (C P S:Addr):Sp:=λvs H Q _=>∃(z:Ss) (s:St),vs=[.ref z.p]/\lA C P S H z s/\Q (.int s.h) H
theorem uJ (T:MB K mg A):FA P w K mg base A.Aa "hand_at" 1 ["self"] [] (rQ A.Aa A.Ad A.Ac):=by
 refine T.De.have vZ (λvs H Q E z=>?_) ?_
 ·obtain⟨z,s,rfl,_⟩:=z;rfl
 ·intro f cdv A' outer s H vs Q E hr z;obtain⟨z,s,rfl,hS,q⟩:=z;obtain⟨dx,h1⟩:=hS.me;refine⟨_,(BA (zB (LA (aA 0) rfl))),?_⟩;rfl';simp only[h1];rfl';exact⟨T.Ab,T.A0,_,QL,q⟩
noncomputable def sQ (C P S:Addr):Sp:=λvs H Q _=>∃(z:Ss) (s:St),vs=[.ref z.p]/\lA C P S H z s/\∀t,H t=none->Q (.ref t) (upd H t (.tup [.int s.go,.int s.ga,.int s.cb]))
theorem EZ (T:MB K mg A):FA P w K mg base A.Aa "moved" 1 ["self"] [] (sQ A.Aa A.Ad A.Ac):=by
 refine T.Dt.have xZ (λvs H Q E z=>?_) ?_
 ·obtain⟨z,s,rfl,_⟩:=z;rfl
 ·intro f cdv A' outer s H vs Q E hr z;obtain⟨z,s,rfl,hS,q⟩:=z;obtain⟨dx,h1⟩:=hS.me;refine⟨_,(BA (zB (VC (dA (LA (aA 0) rfl) (dA (LA (aA 0) rfl) (dA (LA (aA 0) rfl) nA)))))),?_⟩;rfl';simp only[h1];rfl';exact⟨T.Ab,T.As,_,gW,T.Ab,T.Aq,_,hW,T.Ab,T.Ar,_,iW,q⟩
theorem wF {p q:Prop} {b:Bool} (h:b=false) (x:q):if b=true then p else q:=by rw[h];exact x
theorem mE {p q:Prop} {b:Bool} (h:b=true) (x:p):if b=true then p else q:=by rw[h];exact x
theorem FB {H:Hp} {p:Addr} {o:HO} (h:H p=none):iA H (upd H p o)/\upd H p o p=some o:=⟨HB iB h,OA⟩
theorem SC {a b:List (Option Sh)}:SB (a++b)=SB a++SB b:=by unfold SB;rw[List.filterMap_append]
theorem dG:∀{rows:List (Option Sh)} {j:Nat} {r:Sh},rows[j]?=some none->(SB (rows.set j (some r))).Perm (r.hd::SB rows):=by
 intro rows
 induction rows with
 |nil=>intro j r h;simp at h
 |cons x l ih=>
  intro j r h;cases j with
  |zero=>
   simp at h;subst h;exact List.Perm.refl _
  |succ j=>
   have:=ih (j:=j) (r:=r) (by simpa using h);cases x with
   |none=>exact this
   |some y=>exact (List.Perm.cons y.hd this).trans (List.Perm.swap ..)
theorem QH {rows:List (Option Sh)} {j:Nat} {q:Sh} (h:rows[j]?=some (some q)):(SB rows).Perm (q.hd::SB (rows.set j none)):=by
 obtain⟨h1,h2⟩:=List.getElem?_eq_some_iff.mp h;have:=dG (rows:=rows.set j none) (j:=j) (r:=q) (by rw[List.getElem?_set_self h1]);rw[List.set_set,<-h2,List.set_getElem_self] at this;exact this
theorem pW {C S:Addr} {G:Hp} {z:Ss} {s s':St} {dx:Addr} (e:G z.p=some (.ins C dx (QC z.n z.fp z.sq s))) {v:V} {r:Option Sh} (hv:XA S G v r):XA S (upd G z.p (.ins C dx (QC z.n z.fp z.sq s'))) v r:=by
 have ho:∀{c o},G c=some o->(∀D d fs,o=.ins D d fs->fs.lookup ("hand":Str)=none)->upd G z.p (.ins C dx (QC z.n z.fp z.sq s')) c=some o:=λ{c o} hc hn=>by
  rw[oA (λe9=>?_)]
  ·exact hc
  ·rw[e9,e] at hc;have:=hn _ _ _ (Option.some.inj hc).symm;rw[QL] at this;cases this
 cases r with
 |none=>exact hv
 |some r=>
  obtain⟨a,⟨d,h1⟩,h2,h3⟩:=hv;exact⟨a,⟨d,ho h1 λ_ _ _ z=>by cases z;exact KH ∅⟩,ho h2 λ_ _ _ z=>(nomatch z),ho h3 λ_ _ _ z=>nomatch z⟩
theorem JN {z:Ss} {H G:Hp} {o:HO} (k:Ks z H G):Ks z H (upd G z.p o):=λc o' h h1 h2=>by rw[oA h1];exact k c o' h h1 h2
theorem RH {z:Ss} {H G:Hp} {f:Bool} {o:HO} (k:Ks z H G):Ks z H (upd G (z.la f) o):=λc o' h h1 h2=>by rw[oA (λe=>h2 (by rw[e];exact uF))];exact k c o' h h1 h2
noncomputable def IG (ms:List Bool) (h i:Nat) (ps:List Int):Prop:=∃j:Nat,j<=ms.length/\(∀t < j,ms.getD (((h:Int)+t) % (ms.length:Int)).toNat false=true)/\(j=ms.length\/ms.getD (((h:Int)+j) % (ms.length:Int)).toNat false=false)/\(i:Int)=((h:Int)+j) % (ms.length:Int)/\ps=rg ms.length h j
theorem tK {z:Ss} {H G:Hp} {f:Bool} {o:HO} (k:Ks z H G):Ks z H (upd G (z.ta f) o):=λc o' h h1 h2=>by rw[oA (λe=>h2 (by rw[e];exact NH))];exact k c o' h h1 h2
noncomputable def MA (s:St) (i:Nat) (c:Option Nat):Option Nat:=match s.tf[i]? with
 |some (some j)=>some j
 |_=>match aC s.sr s.ts with
  |some j=>some j
  |none=>match nD s.tf with
   |some j=>some j
   |none=>c
noncomputable def WL (C P S:Addr):Sp:=λvs H Q _=>∃(z:Ss) (s:St) (i:Nat) (c:Option Nat),vs=[.ref z.p,.int i,oV c]/\lA C P S H z s/\i < s.fr.length/\∀H',iA H H'->Q (oV (MA s i c)) H'
theorem tQ (T:MB K mg A):FA P w K mg base A.Aa "slot_for" 2 ["self","frame","coming_from"] [] (WL A.Aa A.Ad A.Ac):=by
 have Ax:=@TL P w K mg base A T;have Ci:=@pQ P w K mg base A T;refine T.Cr.have RP (λvs H Q E z=>?_) ?_
 ·obtain⟨z,s,i,v,rfl,_⟩:=z;rfl
 ·intro f cdv A' outer s H vs Q E hr z;obtain⟨z,s,i,c,rfl,hS,hi,q⟩:=z;obtain⟨dx,h1⟩:=hS.me;obtain⟨dx1,vs1,f1,f2,f3,f4,f5⟩:=id hS.fr;obtain⟨dx2,vs2,g1,g2,g3,g4,g5⟩:=id hS.sl;obtain⟨o,ho⟩:∃o,s.tf[i]?=some o:=⟨_,List.getElem?_eq_getElem ⋯⟩
  have hat:SE (s.tf.map oV) (i:Int)=some (oV o):=xA (by rw[List.getElem?_map,ho];rfl);refine⟨_,(aB (GB (qB MD (yA SA (LA (LA (aA 0) rfl) rfl) (aA 1) (λ_ _=>rfl)) lB (gA _)) (BA (zB (yA SA (LA (LA (aA 0) rfl) rfl) (aA 1) (λ_ _=>rfl)))) XB)
   (aB (mB (i:=3) RP.nd rfl (Or.inl rfl) (vD (LA (aA 0) rfl) T.Ae Ax (hr.mono (by decide)) ZA))
   (aB (GB (qB MD (aA 3) lB (gA _)) (BA (zB (aA 3))) XB)
   (aB (mB (i:=4) RP.nd rfl (Or.inl rfl) (vD (LA (aA 0) rfl) T.Ae Ci (hr.mono (by decide)) ZA))
   (BA (zB (LM (qB LD (aA 4) lB (gA _)) (aA 2) (aA 4)))))))),?_⟩
  rfl';simp only[h1];rfl';refine⟨T.Ab,T.Af,_,wD,z.fp,rfl,_,dx1,_,f1,T.Ae,T.Ai,_,sE,z.tw,rfl,_,kA.of f4,oV o,hat,?_⟩;unfold MA at q;rw[ho] at q;cases o with
  |some j=>
   rw[decide_eq_false (show ¬(oV (some j)=V.non) from λz=>nomatch z)];refine ZB ⟨T.Ab,T.Af,_,wD,z.fp,rfl,_,dx1,_,f1,T.Ae,T.Ai,_,sE,z.tw,rfl,_,kA.of f4,oV (some j),hat,?_⟩;exact q H iB
  |none=>
   rw[decide_eq_true (show oV none=V.non from rfl)];refine UA ⟨T.Ab,T.Ah,_,YD,z.sq,rfl,dx2,_,g1,qK ∅,z.sq,z.ls,z.ts,s.sr,s.ts,rfl,hS.sl,λH1 s1=>?_⟩;unfold fe;cases e9:aC s.sr s.ts with
   |some j=>
    rw[e9] at q;rw[decide_eq_false (λz=>nomatch z)];exact ZB (q H1 s1)
   |none=>
    rw[e9] at q;rw[decide_eq_true (rfl:V.non=V.non)];refine UA ⟨_,dx,_,s1 _ _ h1,T.Ab,T.Af,_,wD,z.fp,rfl,dx1,_,s1 _ _ f1,qK ∅,z.fp,z.ly,z.tw,s.fr,s.tf,rfl,hS.fr.same s1,λH2 s2=>?_⟩;have q2:=q H2 (s1.trans s2);cases e8:nD s.tf with
    |none=>
     rw[e8] at q2;show if oV none=V.non then _ else _
     rw[if_pos (show oV none=V.non from rfl)];exact q2
    |some j=>
     rw[e8] at q2;show if oV (some j)=V.non then _ else _
     rw[if_neg (show ¬(oV (some j)=V.non) from λz=>nomatch z)];exact q2
noncomputable def untie (s:St) (i:Nat):St:=match s.tf[i]? with
 |some (some j)=>(s.tie true i none).tie false j none
 |_=>s
noncomputable def FZ (C P S:Addr):Sp:=λvs H Q _=>∃(z:Ss) (s:St) (i:Nat),vs=[.ref z.p,.int i]/\lA C P S H z s/\i < s.fr.length/\(∀j,s.tf[i]?=some (some j)->j < s.sr.length)/\∀H',lA C P S H' z (untie s i)->Ks z H H'->(∀v r,r.bx∉z.four->XA S H v (some r)->XA S H' v (some r))->Q .non H'
theorem qW (T:MB K mg A):FA P w K mg base A.Aa "lose_twin" 1 ["self","frame"] [] (FZ A.Aa A.Ad A.Ac):=by
 refine T.B7.have YV (λvs H Q E z=>?_) ?_
 ·obtain⟨z,s,j,rfl,_⟩:=z;rfl
 ·intro f cdv A' outer s H vs Q E hr z;obtain⟨z,s,i,rfl,hS,hi,hb,q⟩:=z;obtain⟨dx,h1⟩:=hS.me;obtain⟨dx1,vs1,f1,f2,f3,f4,f5⟩:=id hS.fr;obtain⟨o,ho⟩:∃o,s.tf[i]?=some o:=⟨_,List.getElem?_eq_getElem ⋯⟩
  have hat:SE (s.tf.map oV) (i:Int)=some (oV o):=xA (by rw[List.getElem?_map,ho];rfl);refine⟨_,(aB (mB (i:=2) YV.nd rfl (Or.inl rfl) (yA SA (LA (LA (aA 0) rfl) rfl) (aA 1) (λ_ _=>rfl)))
   (BA (GB (qB MD (aA 2) lB (gA _)) (aB (tD lB (sD (LA (LA (aA 0) rfl) rfl) (aA 1) uD))
   (BA (tD lB (sD (LA (LA (aA 0) rfl) rfl) (aA 2) uD)))) XB))),?_⟩
  rfl';simp only[h1];rfl';refine⟨T.Ab,T.Af,_,wD,z.fp,rfl,_,dx1,_,f1,T.Ae,T.Ai,_,sE,z.tw,rfl,_,kA.of f4,oV o,hat,?_⟩;unfold untie at q;rw[ho] at q;cases o with
  |none=>
   rw[decide_eq_true (show oV none=V.non from rfl)];exact UA (q H hS (Ks.of iB) λ_ _ _ h=>h)
  |some j=>
   rw[decide_eq_false (show ¬(oV (some j)=V.non) from λz=>nomatch z)];refine ZB ?_;have hj:=hb j ho;refine⟨T.Ab,T.Af,_,wD,z.fp,rfl,_,dx1,_,f1,T.Ae,T.Ai,_,sE,z.tw,rfl,_,f4,i,pD (by rw[List.length_map];omega),?_⟩;have S1:lA A.Aa A.Ad A.Ac (upd H z.tw (.lst ((s.tf.map oV).set i .non))) z (s.tie true i none):=hS.tie (f:=true) (j:=i) (o:=none);have k1:Ks z H (upd H z.tw (.lst ((s.tf.map oV).set i .non))):=tK (f:=true) (Ks.of iB);have w1:∀v r,r.bx∉z.four->XA A.Ac H v (some r)->XA A.Ac (upd H z.tw (.lst ((s.tf.map oV).set i .non))) v (some r):=λv r hb h=>rK f4 h λq e z9=>by cases e;exact hb (by rw[z9];exact NH (f:=true))
   generalize upd H z.tw _=J at *;obtain⟨dx9,h9⟩:=S1.me;obtain⟨dx8,vs8,e1,e2,e3,e4,e5⟩:=id S1.sl;have e4:J z.ts=some (.lst (s.ts.map oV)):=e4;have e5:s.ts.length=s.sr.length:=e5;refine⟨_,dx9,_,h9,T.Ab,T.Ah,_,YD,z.sq,rfl,_,dx8,_,e1,T.Ae,T.Ai,_,sE,z.ts,rfl,_,(j:Int),rfl,e4,j,pD (by rw[List.length_map];omega),?_⟩;exact q _ (S1.tie (f:=false) (j:=j) (o:=none)) (tK (f:=false) k1) λv r hb h=>rK e4 (w1 v r hb h) λq e z9=>by cases e;exact hb (by rw[z9];exact NH (f:=false))
structure Tw (s:St):Prop where
 there:∀i j:Nat,s.tf[i]?=some (some j)->s.ts[j]?=some (some i)
 back:∀i j:Nat,s.ts[j]?=some (some i)->s.tf[i]?=some (some j)
 full:∀i j:Nat,s.tf[i]?=some (some j)->∃r,s.fr[i]?=some (some r)
 bare:∀i j:Nat,s.ts[j]?=some (some i)->s.sr[j]?=some none
theorem YE {s:St} {i:Nat}:(untie s i).fr=s.fr/\(untie s i).sr=s.sr/\(untie s i).h=s.h/\(untie s i).go=s.go/\(untie s i).ga=s.ga/\(untie s i).cb=s.cb:=by
 unfold untie
 split<;>exact⟨rfl,rfl,rfl,rfl,rfl,rfl⟩
noncomputable def TC (s:St) (j:Nat):St:=match s.ts[j]? with
 |some (some k)=>untie s k
 |_=>s
theorem uK {s:St} {j:Nat}:(TC s j).fr=s.fr/\(TC s j).sr=s.sr/\(TC s j).h=s.h/\(TC s j).go=s.go/\(TC s j).ga=s.ga/\(TC s j).cb=s.cb:=by
 unfold TC
 split
 ·exact YE
 ·exact⟨rfl,rfl,rfl,rfl,rfl,rfl⟩
noncomputable def CB (s:St) (i j:Nat):St:={s with go:=s.go+1,ga:=if s.tf[i]?=some (some j) then s.ga else s.ga+1}
noncomputable def IB (s:St) (i j:Nat) (r:Sh):St:=((TC (CB s i j) j).put false j (some r)).put true i none
theorem eG {s:St} {i j:Nat} {r:Sh}:(IB s i j r).fr=s.fr.set i none/\(IB s i j r).sr=s.sr.set j (some r)/\(IB s i j r).h=s.h/\(IB s i j r).go=s.go+1/\(IB s i j r).ga=(if s.tf[i]?=some (some j) then s.ga else s.ga+1)/\(IB s i j r).cb=s.cb/\(IB s i j r).tf=(TC s j).tf/\(IB s i j r).ts=(TC s j).ts:=by
 have e:TC (CB s i j) j={TC s j with go:=s.go+1,ga:=if s.tf[i]?=some (some j) then s.ga else s.ga+1}:=by
  have eu:∀k,untie (CB s i j) k={untie s k with go:=s.go+1,ga:=if s.tf[i]?=some (some j) then s.ga else s.ga+1}:=λk=>by
   unfold untie;show (match s.tf[k]? with|some (some j2)=>((CB s i j).tie true k none).tie false j2 none|_=>CB s i j)=_;cases e2:s.tf[k]? with
   |none=>rfl
   |some u=>cases u with
    |none=>rfl
    |some l=>rfl
  unfold TC;show (match s.ts[j]? with|some (some k)=>untie (CB s i j) k|_=>CB s i j)=_;cases e1:s.ts[j]? with
  |none=>rfl
  |some u=>cases u with
   |none=>rfl
   |some k=>exact eu k
 unfold IB;rw[e];exact⟨by show (TC s j).fr.set i none=_;rw[uK.1],by show (TC s j).sr.set j (some r)=_;rw[uK.2.1],uK.2.2.1,rfl,rfl,uK.2.2.2.2.2,rfl,rfl⟩
noncomputable def vJ (C P S:Addr):Sp:=λvs H Q _=>∃(z:Ss) (s:St) (i j:Nat) (c:Option Nat) (r:Sh),vs=[.ref z.p,.int i,oV c]/\lA C P S H z s/\Tw s/\s.fr[i]?=some (some r)/\IE r/\j < s.sr.length/\MA s i c=some j/\
 ∀H' t l,lA C P S H' z (IB s i j r)->H' t=some (.tup [.int j,.ref l])->FD H' l (yB r.ks)->l∉z.four->Ks z H H'->Q (.ref t) H'
theorem YL (T:MB K mg A):FA P w K mg base A.Aa "put_out" 3 ["self","frame","coming_from"] [] (vJ A.Aa A.Ad A.Ac):=by
 have Cz:=@tQ P w K mg base A T;have Ay:=@qW P w K mg base A T;have Ak:=@IN P w K mg base A T;refine T.Df.have PP (λvs H Q E z=>?_) ?_
 ·obtain⟨z,s,i,j,v,r,rfl,_⟩:=z;rfl
 ·intro f cdv A' outer s H vs Q E hr z;obtain⟨z,s,i,j,c,r,rfl,hS,hT,hri,hok,hj,hsf,q⟩:=z;obtain⟨dx,h1⟩:=hS.me;obtain⟨dx1,vs1,f1,f2,f3,f4,f5⟩:=id hS.fr;obtain⟨dx2,vs2,g1',g2',g3',g4',g5'⟩:=id hS.sl;obtain⟨v1,hv1,rfl,⟨dxr,g1⟩,g2,g3⟩:=mF f3 hri;have hil:=(List.getElem?_eq_some_iff.mp hri).1;have hbr:r.bx∉z.four:=hS.bx r (.inl (List.mem_of_getElem? hri));obtain⟨o,ho⟩:∃o,s.tf[i]?=some o:=⟨_,List.getElem?_eq_getElem ⋯⟩
  have hat:SE (s.tf.map oV) (i:Int)=some (oV o):=xA (by rw[List.getElem?_map,ho];rfl);obtain⟨u,hu⟩:∃u,s.ts[j]?=some u:=⟨_,List.getElem?_eq_getElem ⋯⟩
  have hau:SE (s.ts.map oV) (j:Int)=some (oV u):=xA (by rw[List.getElem?_map,hu];rfl);refine⟨_,(aB (mB (i:=3) PP.nd rfl (Or.inl rfl) (yA SA (LA (LA (aA 0) rfl) rfl) (aA 1) (λ_ _=>rfl)))
   (nB (mB (i:=4) PP.nd rfl (Or.inl rfl) (QD (aA 0) T.Ab Cz (hr.mono (by decide)) ZA (dA (aA 1) (dA (aA 2) nA))))
   (nB (yE (aA 0) (VA zD (LA (aA 0) rfl) rA) rfl)
   (nB (GB (qB lO (aA 4) (yA SA (LA (LA (aA 0) rfl) rfl) (aA 1) (λ_ _=>rfl)) (gA _)) (BA (yE (aA 0) (VA zD (LA (aA 0) rfl) rA) rfl)) XB)
   (nB (GB (qB MD (yA SA (LA (LA (aA 0) rfl) rfl) (aA 4) (λ_ _=>rfl)) lB (gA _)) (BA (aD (QD (aA 0) T.Ab Ay (hr.mono (by decide)) ZA (dA (yA SA (LA (LA (aA 0) rfl) rfl) (aA 4) (λ_ _=>rfl)) nA)))) XB)
   (nB (tD (aA 3) (sD (LA (LA (aA 0) rfl) rfl) (aA 4) uD))
   (nB (tD lB (sD (LA (LA (aA 0) rfl) rfl) (aA 1) uD))
   (BA (zB (VC (dA (aA 4) (dA (vD (aA 3) T.An Ak (hr.mono (by decide)) ZA) nA)))))))))))),?_⟩
  rfl';simp only[h1];rfl';refine⟨T.Ab,T.Af,_,wD,z.fp,rfl,_,dx1,_,f1,T.Ae,T.Ag,_,lD,z.ly,rfl,_,kA.of f2,_,xA hv1,?_⟩;refine wA (λσ G=>σ=[some (.ref z.p),some (.int i),some (oV c),some (.ref r.sh),some (.int j)]/\iA H G) ?_ λU9 D9 hU9 hD9 σ1 G1=>?_
  ·rfl';exact⟨dx,_,h1,EC ∅,z,s,i,c,rfl,hS,hil,λH' s1=>⟨by rw[hsf];rfl,s1⟩⟩
  rintro⟨rfl,s1⟩;subst hU9 hD9;have hS1:=hS.same s1;have sh1:XA A.Ac G1 (.ref r.sh) (some r):=XA.same s1 ⟨rfl,⟨dxr,g1⟩,g2,g3⟩;have k1:Ks z H G1:=Ks.of s1;clear s1;refine wA (λσ G=>σ=[some (.ref z.p),some (.int i),some (oV c),some (.ref r.sh),some (.int j)]/\lA A.Aa A.Ad A.Ac G z {s with go:=s.go+1}/\Ks z H G/\XA A.Ac G (.ref r.sh) (some r)) ?_ λU9 D9 hU9 hD9 σ2 G2=>?_
  ·obtain⟨dx9,h9⟩:=hS1.me;rfl';refine⟨_,dx9,_,h9,T.Ab,T.As,_,gW,s.go,rfl,_,dx9,_,h9,T.Ab,T.As,by show 7 < 1000;decide,?_⟩;rw[oJ];exact⟨hS1.num h9 rfl rfl hS1.hh rfl rfl,JN k1,pW h9 sh1⟩
  rintro⟨rfl,hS2,k2,sh2⟩;subst hU9 hD9;clear hS1 sh1 k1;refine wA (λσ G=>σ=[some (.ref z.p),some (.int i),some (oV c),some (.ref r.sh),some (.int j)]/\lA A.Aa A.Ad A.Ac G z (CB s i j)/\Ks z H G/\XA A.Ac G (.ref r.sh) (some r)) ?_ λU9 D9 hU9 hD9 σ3 G3=>?_
  ·obtain⟨dx9,h9⟩:=hS2.me;obtain⟨dx8,vs8,e1,e2,e3,e4,e5⟩:=id hS2.fr;rfl';have fin:s.tf[i]?≠some (some j)->lA A.Aa A.Ad A.Ac (upd G2 z.p (.ins A.Aa dx9 (QC z.n z.fp z.sq {s with go:=s.go+1,ga:=s.ga+1}))) z (CB s i j):=λhn=>by
    have e:CB s i j={s with go:=s.go+1,ga:=s.ga+1}:=by unfold CB;rw[if_neg hn]
    rw[e];exact hS2.num h9 rfl rfl hS2.hh rfl rfl
   refine⟨_,dx9,_,h9,T.Ab,T.Af,_,wD,z.fp,rfl,_,dx8,_,e1,T.Ae,T.Ai,_,sE,z.tw,rfl,_,kA.of e4,oV o,hat,?_⟩;refine⟨by cases o<;>rfl,?_⟩;by_cases c9:o=some j
   ·subst c9;have e:CB s i j={s with go:=s.go+1}:=by unfold CB;rw[if_pos ho]
    rw[e];exact wF (by rw[decide_eq_true (show V.int (j:Int)=oV (some j) from rfl)];rfl) ⟨hS2,k2,sh2⟩
   ·have hne:¬(V.int (j:Int)=oV o):=λe=>c9 (by
     cases o with
     |none=>cases e
     |some k=>have:(j:Int)=k:=V.int.inj e;rw[show k=j by omega])
    refine mE (by rw[decide_eq_false hne];rfl) ⟨_,dx9,_,h9,T.Ab,T.Aq,_,hW,s.ga,rfl,_,dx9,_,h9,T.Ab,T.Aq,by show 7 < 1000;decide,?_⟩;rw[pJ];exact⟨fin (λz=>c9 (by rw[ho] at z;exact Option.some.inj z)),JN k2,pW h9 sh2⟩
  rintro⟨rfl,hS3,k3,sh3⟩;subst hU9 hD9;clear hS2 sh2 k2;have hcl:(TC (CB s i j) j).sr=s.sr/\(TC (CB s i j) j).fr=s.fr:=⟨uK.2.1,uK.1⟩
  refine wA (λσ G=>σ=[some (.ref z.p),some (.int i),some (oV c),some (.ref r.sh),some (.int j)]/\lA A.Aa A.Ad A.Ac G z (TC (CB s i j) j)/\Ks z H G/\XA A.Ac G (.ref r.sh) (some r)) ?_ λU9 D9 hU9 hD9 σ4 G4=>?_
  ·obtain⟨dx9,h9⟩:=hS3.me;obtain⟨dx8,vs8,e1,e2,e3,e4,e5⟩:=id hS3.sl;rfl';refine⟨_,dx9,_,h9,T.Ab,T.Ah,_,YD,z.sq,rfl,_,dx8,_,e1,T.Ae,T.Ai,_,sE,z.ts,rfl,_,kA.of e4,oV u,hau,?_⟩;cases u with
   |none=>
    rw[decide_eq_true (show oV none=V.non from rfl)];refine UA ⟨?_,k3,sh3⟩;have e:TC (CB s i j) j=CB s i j:=by
     unfold TC;rw[show (CB s i j).ts[j]?=some none from hu]
    rw[e];exact hS3
   |some k=>
    rw[decide_eq_false (show ¬(oV (some k)=V.non) from λz=>nomatch z)];have e:TC (CB s i j) j=untie (CB s i j) k:=by
     unfold TC;rw[show (CB s i j).ts[j]?=some (some k) from hu]
    have htk:=hT.back k j hu;refine ZB ⟨dx9,_,h9,EC ∅,_,dx9,_,h9,T.Ab,T.Ah,_,YD,z.sq,rfl,_,dx8,_,e1,T.Ae,T.Ai,_,sE,z.ts,rfl,_,kA.of e4,oV (some k),hau,z,CB s i j,k,rfl,hS3,?_,λj2 h2=>?_,λH' a1 a2 a3=>⟨by rw[e];exact a1,k3.trans a2,a3 _ _ hbr sh3⟩⟩
    ·have:k < s.tf.length:=(List.getElem?_eq_some_iff.mp htk).1;show k < s.fr.length;omega
    ·have h2:s.tf[k]?=some (some j2):=h2;rw[htk] at h2;have:j=j2:=Option.some.inj (Option.some.inj h2);show j2 < s.sr.length;omega
  rintro⟨rfl,hS4,k4,sh4⟩;subst hU9 hD9;clear hS3 sh3 k3;refine wA (λσ G=>σ=[some (.ref z.p),some (.int i),some (oV c),some (.ref r.sh),some (.int j)]/\lA A.Aa A.Ad A.Ac G z ((TC (CB s i j) j).put false j (some r))/\Ks z H G/\XA A.Ac G (.ref r.sh) (some r)) ?_ λU9 D9 hU9 hD9 σ5 G5=>?_
  ·obtain⟨dx9,h9⟩:=hS4.me;obtain⟨dx8,vs8,e1,e2,e3,e4,e5⟩:=id hS4.sl;have l8:=Paired.length e3;rw[hcl.1] at l8;rfl';refine⟨_,dx9,_,h9,T.Ab,T.Ah,_,YD,z.sq,rfl,_,dx8,_,e1,T.Ae,T.Ag,_,lD,z.ls,rfl,vs8,e2,j,pD (by rw[l8];exact hj),?_⟩;exact⟨hS4.set (f:=false) (j:=j) (r:=some r) e2 sh4 (λq e=>by cases e;exact hbr),RH (f:=false) k4,rK e2 sh4 λq e z9=>by cases e;exact hbr (by rw[z9];exact uF (f:=false))⟩
  rintro⟨rfl,hS5,k5,sh5⟩;subst hU9 hD9;clear hS4 sh4 k4;refine wA (λσ G=>σ=[some (.ref z.p),some (.int i),some (oV c),some (.ref r.sh),some (.int j)]/\lA A.Aa A.Ad A.Ac G z (IB s i j r)/\Ks z H G/\XA A.Ac G (.ref r.sh) (some r)) ?_ λU9 D9 hU9 hD9 σ6 G6=>?_
  ·obtain⟨dx9,h9⟩:=hS5.me;obtain⟨dx8,vs8,e1,e2,e3,e4,e5⟩:=id hS5.fr;have l8:vs8.length=s.fr.length:=by rw[<-hcl.2];exact Paired.length e3
   rfl';refine⟨_,dx9,_,h9,T.Ab,T.Af,_,wD,z.fp,rfl,_,dx8,_,e1,T.Ae,T.Ag,_,lD,z.ly,rfl,vs8,e2,i,pD (by rw[l8];exact hil),?_⟩;exact⟨hS5.set (f:=true) (j:=i) (r:=none) e2 rfl (λq e=>nomatch e),RH (f:=true) k5,rK e2 sh5 λq e z9=>by cases e;exact hbr (by rw[z9];exact uF (f:=true))⟩
  rintro⟨rfl,hS6,k6,sh6⟩;subst hU9 hD9;obtain⟨_,⟨dx9,h9⟩,_⟩:=id sh6;rfl';refine⟨dx9,_,h9,KH ∅,_,r,rfl,sh6,hok,λl G7 hl s7 htd t ht=>?_⟩;have s8:iA G7 (upd G7 t (.tup [V.int (j:Int),V.ref l])):=HB iB ht;exact q _ t l ((hS6.same s7).same s8) OA (htd.same s8) (hS6.nf hl) ((k6.trans (Ks.of s7)).trans (Ks.of s8))
theorem vK {rows:List (Option Sh)} {tws:List (Option Nat)} {j:Nat} (h:aC rows tws=some j):rows[j]?=some none/\tws[j]?=some none:=by
 obtain⟨hj,h1,_⟩:=List.findIdx?_eq_some_iff_getElem.mp h;have e:=List.getElem?_eq_getElem hj;obtain⟨e1,e2⟩:=List.getElem?_zip_eq_some.mp e;generalize (rows.zip tws)[j]=p at *;obtain⟨a,b⟩:=p;cases a with
 |some r=>cases h1
 |none=>cases b with
  |some k=>cases h1
  |none=>exact⟨e1,e2⟩
theorem rW {rows:List (Option Sh)} {tws:List (Option Nat)} (h:aC rows tws=none) (hl:tws.length=rows.length) {j:Nat} (hj:j < rows.length):(∃r,rows[j]?=some (some r))\/∃t,tws[j]?=some (some t):=by
 have hz:j < (rows.zip tws).length:=by rw[List.length_zip];omega
 have h1:=List.findIdx?_eq_none_iff.mp h _ (List.getElem_mem hz);obtain⟨e1,e2⟩:=List.getElem?_zip_eq_some.mp (List.getElem?_eq_getElem hz);generalize (rows.zip tws)[j]=p at *;obtain⟨a,b⟩:=p;cases a with
 |some r=>exact .inl ⟨r,e1⟩
 |none=>cases b with
  |some k=>exact .inr ⟨k,e2⟩
  |none=>cases h1
theorem sW {rows:List (Option Sh)} {tws:List (Option Nat)} {j:Nat} (h1:rows[j]?=some none) (h2:tws[j]?=some none) (h3:∀k < j,(∃r,rows[k]?=some (some r))\/∃t,tws[k]?=some (some t)):aC rows tws=some j:=by
 have e:(rows.zip tws)[j]?=some (none,none):=List.getElem?_zip_eq_some.mpr ⟨h1,h2⟩;obtain⟨hz,e1⟩:=List.getElem?_eq_some_iff.mp e;refine List.findIdx?_eq_some_iff_getElem.mpr ⟨hz,by rw[e1];rfl,λk hk=>?_⟩;obtain⟨e3,e4⟩:=List.getElem?_zip_eq_some.mp (List.getElem?_eq_getElem (Nat.lt_trans hk hz));generalize (rows.zip tws)[k]=p at *;obtain⟨a,b⟩:=p;rcases h3 k hk with ⟨r,hr⟩|⟨t,ht⟩
 ·rw[e3] at hr;have hr:a=some r:=Option.some.inj hr;subst hr;simp
 ·rw[e4] at ht;have ht:b=some t:=Option.some.inj ht;subst ht;simp
theorem tW {rows:List (Option Sh)} {tws:List (Option Nat)} (h3:∀k < rows.length,(∃r,rows[k]?=some (some r))\/∃t,tws[k]?=some (some t)):aC rows tws=none:=by
 cases e:aC rows tws with
 |none=>rfl
 |some j=>
  obtain⟨e1,e2⟩:=vK e;rcases h3 j (List.getElem?_eq_some_iff.mp e1).1 with ⟨r,hr⟩|⟨t,ht⟩
  ·rw[e1] at hr;cases hr
  ·rw[e2] at ht;cases ht
theorem Tw.all {s:St} (hT:Tw s) (hl:s.tf.length=s.fr.length) (h:aC s.fr s.tf=none) {i:Nat} (hi:i < s.fr.length):∃r,s.fr[i]?=some (some r):=by
 rcases rW h hl hi with h|⟨t,ht⟩
 ·exact h
 ·exact hT.full i t ht
theorem uW {l:List (Option Nat)} {j:Nat} (h:nD l=some j):∃i:Nat,l[i]?=some (some j)/\∀k < i,l[k]?=some none:=by
 induction l with
 |nil=>cases h
 |cons x r ih=>
  cases x with
  |none=>
   obtain⟨i,h1,h2⟩:=ih h;refine⟨i+1,by simpa using h1,λk hk=>?_⟩;cases k with
   |zero=>rfl
   |succ k=>simpa using h2 k ⋯
  |some y=>
   have h:some y=some j:=h;exact⟨0,by rw[h];rfl,λk hk=>absurd hk (Nat.not_lt_zero _)⟩
theorem vW {l:List (Option Nat)} (h:nD l=none) {i:Nat} (hi:i < l.length):l[i]?=some none:=by
 have:=List.findSome?_eq_none_iff.mp h _ (List.getElem_mem hi);rw[List.getElem?_eq_getElem hi];exact congrArg some this
noncomputable def cl (j:Nat) (o:Option Nat):Option Nat:=if o=some j then none else o
theorem GZ {j b:Nat} {o:Option Nat}:cl j o=some b↔o=some b/\b≠j:=by
 unfold cl
 split
 ·rename_i h;subst h;constructor
  ·intro h;cases h
  ·rintro⟨h,hn⟩;exact absurd (Option.some.inj h).symm hn
 ·rename_i h;exact⟨λe=>⟨e,λe2=>h (by rw[e,e2])⟩,λe=>e.1⟩
theorem KN {j a b:Nat} {l:List (Option Nat)}:(l.map (cl j))[a]?=some (some b)↔l[a]?=some (some b)/\b≠j:=by
 rw[List.getElem?_map];cases l[a]? with
 |none=>exact⟨(λh=>by cases h),λh=>by cases h.1⟩
 |some o=>
  show some (cl j o)=some (some b)↔some o=some (some b)/\b≠j;rw[Option.some_inj,Option.some_inj];exact GZ
theorem nE {j a b:Nat} {l:List (Option Nat)}:(l.set j none)[b]?=some (some a)↔l[b]?=some (some a)/\b≠j:=by
 rw[List.getElem?_set];by_cases c:j=b
 ·subst c;rw[if_pos rfl]
  split
  ·exact⟨(λh=>by cases h),λh=>absurd rfl h.2⟩
  ·exact⟨(λh=>by cases h),λh=>absurd rfl h.2⟩
 ·rw[if_neg c];exact⟨λh=>⟨h,λe=>c e.symm⟩,λh=>h.1⟩
theorem LN {j:Nat} {l:List (Option Nat)} (h:∀a:Nat,l[a]?≠some (some j)):l.map (cl j)=l:=by
 refine List.ext_getElem? λa=>?_;rw[List.getElem?_map];cases e:l[a]? with
 |none=>rfl
 |some o=>
  show some (cl j o)=some o;unfold cl;rw[if_neg (λz=>h a (by rw[e,z]))]
theorem MN {s:St} {j:Nat} (hT:Tw s):(TC s j).tf=s.tf.map (cl j)/\(TC s j).ts=s.ts.set j none:=by
 unfold TC;cases e:s.ts[j]? with
 |none=>
  have e2:∀a:Nat,s.tf[a]?≠some (some j):=λa h=>by have:=hT.there a j h;rw[e] at this;cases this
  exact⟨(LN e2).symm,(List.set_eq_of_length_le (List.getElem?_eq_none_iff.mp e)).symm⟩
 |some u=>
  cases u with
  |none=>
   have e2:∀a:Nat,s.tf[a]?≠some (some j):=λa h=>by have:=hT.there a j h;rw[e] at this;cases this
   refine⟨(LN e2).symm,?_⟩;obtain⟨h1,h2⟩:=List.getElem?_eq_some_iff.mp e;show s.ts=s.ts.set j none;rw[<-h2,List.set_getElem_self]
  |some k=>
   have hk:=hT.back k j e;show (untie s k).tf=_/\(untie s k).ts=_;have eu:untie s k=(s.tie true k none).tie false j none:=by
    unfold untie;rw[hk]
   rw[eu];refine⟨?_,rfl⟩;show s.tf.set k none=s.tf.map (cl j);refine List.ext_getElem? λa=>?_;rw[List.getElem?_set,List.getElem?_map];by_cases c:k=a
   ·subst c;rw[if_pos rfl,if_pos (List.getElem?_eq_some_iff.mp hk).1,hk];show some none=some (cl j (some j));unfold cl;rw[if_pos rfl]
   ·rw[if_neg c];cases e9:s.tf[a]? with
    |none=>rfl
    |some o=>
     show some o=some (cl j o);unfold cl;rw[if_neg (λz=>?_)];rw[z] at e9;have:=hT.there a j e9;rw[e] at this;exact c (Option.some.inj (Option.some.inj this))
theorem Tw.out {s:St} {i j:Nat} {r:Sh} (hT:Tw s) (h:∀b,s.tf[i]?=some (some b)->b=j):Tw (IB s i j r)/\∀b,(IB s i j r).tf[i]?≠some (some b):=by
 obtain⟨e1,e2,_,_,_,_,e7,e8⟩:=eG (s:=s) (i:=i) (j:=j) (r:=r);obtain⟨c1,c2⟩:=MN (j:=j) hT;have hn:∀b,(s.tf.map (cl j))[i]?≠some (some b):=λb z=>by
  obtain⟨z1,z2⟩:=KN.mp z;exact z2 (h b z1)
 refine⟨⟨λa b hab=>?_,λa b hab=>?_,λa b hab=>?_,λa b hab=>?_⟩,λb=>by rw[e7,c1];exact hn b⟩
 ·rw[e7,c1] at hab;obtain⟨z1,z2⟩:=KN.mp hab;rw[e8,c2];exact nE.mpr ⟨hT.there a b z1,z2⟩
 ·rw[e8,c2] at hab;obtain⟨z1,z2⟩:=nE.mp hab;rw[e7,c1];exact KN.mpr ⟨hT.back a b z1,z2⟩
 ·rw[e7,c1] at hab;have hai:a≠i:=λe=>hn b (by rw[<-e];exact hab);obtain⟨z1,z2⟩:=KN.mp hab;rw[e1,List.getElem?_set,if_neg (Ne.symm hai)];exact hT.full a b z1
 ·rw[e8,c2] at hab;obtain⟨z1,z2⟩:=nE.mp hab;rw[e2,List.getElem?_set,if_neg (Ne.symm z2)];exact hT.bare a b z1
theorem NN {s:St} {i j b:Nat} {c:Option Nat} (h:MA s i c=some j) (hb:s.tf[i]?=some (some b)):b=j:=by
 unfold MA at h;rw[hb] at h;exact Option.some.inj h
theorem ZL {s:St} {i j:Nat} {c:Option Nat} (hT:Tw s) (h:MA s i c=some j):s.sr[j]?=some none\/(c=some j/\(∀b,s.tf[i]?≠some (some b))/\aC s.sr s.ts=none/\nD s.tf=none):=by
 unfold MA at h;have go:(∀b,s.tf[i]?≠some (some b))->(match aC s.sr s.ts with|some j=>some j|none=>match nD s.tf with|some j=>some j|none=>c)=some j->s.sr[j]?=some none\/(c=some j/\(∀b,s.tf[i]?≠some (some b))/\aC s.sr s.ts=none/\nD s.tf=none):=λhn h=>by
  cases e1:aC s.sr s.ts with
  |some j2=>
   rw[e1] at h;obtain rfl:j2=j:=Option.some.inj h;exact .inl (vK e1).1
  |none=>
   rw[e1] at h;cases e2:nD s.tf with
   |some j2=>
    rw[e2] at h;obtain rfl:j2=j:=Option.some.inj h;obtain⟨a,ha,_⟩:=uW e2;exact .inl (hT.bare a _ (hT.there a _ ha))
   |none=>
    rw[e2] at h;exact .inr ⟨h,hn,rfl,rfl⟩
 cases e:s.tf[i]? with
 |none=>rw[e] at h;exact e ▸ go (λb z=>by rw[e] at z;cases z) h
 |some u=>
  cases u with
  |none=>rw[e] at h;exact e ▸ go (λb z=>by rw[e] at z;cases z) h
  |some b=>
   rw[e] at h;obtain rfl:b=j:=Option.some.inj h;exact .inl (hT.bare i _ (hT.there i _ e))
theorem uQ {s:St} {i:Nat} {c:Option Nat} (hT:Tw s) (hl:s.ts.length=s.sr.length) (hc:aC s.sr s.ts=none->nD s.tf=none->∃j,c=some j/\j < s.sr.length):∃j,MA s i c=some j/\j < s.sr.length:=by
 have tl:∀{a j:Nat},s.tf[a]?=some (some j)->j < s.sr.length:=λh=>by
  have:=(List.getElem?_eq_some_iff.mp (hT.there _ _ h)).1;omega
 have go:∃j,(match aC s.sr s.ts with|some j=>some j|none=>match nD s.tf with|some j=>some j|none=>c)=some j/\j < s.sr.length:=by
  cases e1:aC s.sr s.ts with
  |some j2=>exact⟨j2,rfl,(List.getElem?_eq_some_iff.mp (vK e1).1).1⟩
  |none=>
   cases e2:nD s.tf with
   |some j2=>obtain⟨a,ha,_⟩:=uW e2;exact⟨j2,rfl,tl ha⟩
   |none=>exact hc e1 e2
 unfold MA;cases e:s.tf[i]? with
 |none=>exact go
 |some u=>
  cases u with
  |none=>exact go
  |some b=>exact⟨b,rfl,tl e⟩
theorem wW {rows:List (Option Sh)} (h:∀j < rows.length,∃r,rows[j]?=some (some r)):kC rows=rows.length:=by
 unfold kC;rw[List.filter_eq_self.mpr λo ho=>by
  obtain⟨j,hj⟩:=List.mem_iff_getElem?.mp ho;obtain⟨r,hr⟩:=h j (List.getElem?_eq_some_iff.mp hj).1;rw[hj] at hr;have:o=some r:=Option.some.inj hr;subst this
  rfl]
theorem vQ {s:St} (hT:Tw s) (l1:s.tf.length=s.fr.length) (l2:s.ts.length=s.sr.length) (h:wB s < room s) (e:aC s.fr s.tf=none) {i:Nat} {c:Option Nat}:∃j,MA s i c=some j/\j < s.sr.length:=uQ hT l2 λe1 e2=>by
 unfold wB room at h;rw[wW λj hj=>hT.all l1 e hj,wW λj hj=>?_] at h
 ·omega
 ·rcases rW e1 l2 hj with h|⟨t,ht⟩
  ·exact h
  ·have hb:=hT.back _ _ ht;have:=vW e2 (List.getElem?_eq_some_iff.mp hb).1;rw[this] at hb;cases hb
noncomputable def OB (F:List Addr) (H:Hp) (v:V):Option (Nat×Sh)->Prop
 |none=>v=.non
 |some (j,q)=>∃o l,v=.ref o/\H o=some (.tup [.int (j:Int),.ref l])/\FD H l (yB q.ks)/\l∉F
theorem OB.keep {F:List Addr} {H H':Hp} {v:V} (k:∀c us,H c=some (.tup us)\/(H c=some (.lst us)/\c∉F)->H' c=H c):∀{o:Option (Nat×Sh)},OB F H v o->OB F H' v o
 |none,h=>h
 |some (_,_),⟨o,l,e,h1,⟨us,h2,h3⟩,h4⟩=>⟨o,l,e,(k _ _ (.inl h1)).trans h1,⟨us,(k _ _ (.inr ⟨h2,h4⟩)).trans h2,Paired.mapP h3 λ_ _ ⟨a,e,q⟩=>⟨a,e,(k _ _ (.inl q)).trans q⟩⟩,h4⟩
theorem OB.same {F:List Addr} {H H':Hp} {v:V} {o:Option (Nat×Sh)} (h:OB F H v o) (s:iA H H'):OB F H' v o:=h.keep λc us hc=>by
 rcases hc with hc|hc
 ·rw[hc];exact s _ _ hc
 ·rw[hc.1];exact s _ _ hc.1
noncomputable def gD (s:St) (c:Option Nat) (ms:List Bool) (s1:St) (i:Nat) (ps:List Int) (out:Option (Nat×Sh)):Prop:=
 (aC s.fr s.tf=some i/\s1=s/\ps=[]/\out=none)\/
 (aC s.fr s.tf=none/\∃(q:Sh) (j:Nat),IG ms s.h i ps/\s.fr[i]?=some (some q)/\MA s i c=some j/\j < s.sr.length/\s1=IB {s with h:=(i+1) % s.fr.length} i j q/\out=some (j,q))
noncomputable def aM (C P S:Addr):Sp:=λvs H Q _=>∃(z:Ss) (s:St) (c:Option Nat) (m:Addr) (ms:List Bool),vs=[.ref z.p,oV c,.ref m]/\lA C P S H z s/\Tw s/\H m=some (.lst (ms.map V.bl))/\ms.length=s.fr.length/\
 (aC s.fr s.tf=none->(∀i,∃j:Nat,MA s i c=some j/\j < s.sr.length)/\∀r,some r∈s.fr->IE r)/\
 ∀H' s1 i ps out t e v3,gD s c ms s1 i ps out->lA C P S H' z s1->H' t=some (.tup [.int (i:Int),.ref e,v3])->H' e=some (.lst (ps.map V.int))->OB z.four H' v3 out->e∉z.four->Ks z H H'->Q (.ref t) H'
theorem Tw.hand {s:St} {h:Nat} (t:Tw s):Tw {s with h:=h}:=⟨t.there,t.back,t.full,t.bare⟩
theorem bM (T:MB K mg A):FA P w K mg base A.Aa "frame_for" 4 ["self","coming_from","marks"] [] (aM A.Aa A.Ad A.Ac):=by
 have Ax:=@TL P w K mg base A T;have F6:=@kQ P w K mg base A T;have Dl:=@YL P w K mg base A T;refine T.B8.have NP (λvs H Q E z=>?_) ?_
 ·obtain⟨z,s,c,m,ms,rfl,_⟩:=z;rfl
 ·intro f cdv A' outer s H vs Q E hr z;obtain⟨z,s,c,m,ms,rfl,hS,hT,hm,hml,hfu,q⟩:=z;obtain⟨dx,h1⟩:=hS.me;obtain⟨dx1,vs1,f1,f2,f3,f4,f5⟩:=id hS.fr;have nf:∀{e:Addr},H e=none->e∉z.four:=λhe=>hS.nf he;refine⟨_,(aB (mB (i:=3) NP.nd rfl (Or.inl rfl) (vD (LA (aA 0) rfl) T.Ae Ax (hr.mono (by decide)) ZA))
   (aB (GB (qB MD (aA 3) lB (gA _)) (BA (zB (VC (dA (aA 3) (dA (UC nA) (dA lB nA)))))) XB)
   (nB (mB (i:=4) NP.nd rfl (Or.inl rfl) (pC F6 (hr.mono (by decide)) ZA (dA (aA 2) (dA (LA (aA 0) rfl) nA))))
   (nB (yE (aA 0) (VA FC (VA zD (yA oC (aA 4) rA (λ_ _=>rfl)) rA) (DB yC rfl T.Aj PySem.boot_len (dA (LA (LA (aA 0) rfl) rfl) nA))) rfl)
   (BA (zB (VC (dA (yA oC (aA 4) rA (λ_ _=>rfl)) (dA (yA oC (aA 4) rA (λ_ _=>rfl)) (dA (QD (aA 0) T.Ab Dl (hr.mono (by decide)) ZA (dA (yA oC (aA 4) rA (λ_ _=>rfl)) (dA (aA 1) nA))) nA)))))))))),?_⟩
  unfold OH;rfl';simp only[h1];rfl';refine⟨T.Ab,T.Af,_,wD,z.fp,rfl,dx1,_,f1,qK ∅,z.fp,rfl,z.ly,z.tw,s.fr,s.tf,hS.fr,λH1 s1=>?_⟩;unfold fe;cases e9:aC s.fr s.tf with
  |some i=>
   rw[decide_eq_false (λz=>nomatch z)];refine ZB λe1 he1 t1 ht1=>?_;have b1:=HB (o:=.lst []) (iB (H:=H1)) he1;have b2:=HB (o:=.tup [V.int (i:Int),V.ref e1,V.non]) (iB (H:=upd H1 e1 (.lst []))) ht1;exact q _ s i [] none t1 e1 .non (.inl ⟨e9,rfl,rfl,rfl⟩) (((hS.same s1).same b1).same b2) OA (b2 _ _ OA) rfl (nf (NB s1 he1)) (Ks.of ((s1.trans b1).trans b2))
  |none=>
   rw[decide_eq_true (rfl:V.non=V.non)];obtain⟨hsl,hok⟩:=hfu e9;have hS1:=hS.same s1;refine UA ⟨λσ G=>∃i t e ps,σ=[some (.ref z.p),some (oV c),some (.ref m),some .non,some (.ref t)]/\iA H1 G/\IG ms s.h i ps/\i < s.fr.length/\G t=some (.tup [.int (i:Int),.ref e])/\G e=some (.lst (ps.map V.int))/\H1 e=none,?_,λσ2 G2=>?_⟩
   ·obtain⟨dx9,h9⟩:=hS1.me;rfl';have hh:=hS.hh;have hl64:=hS.len.1;refine⟨_,dx9,_,h9,T.Ab,T.A0,_,QL,m,s.h,ms,rfl,kA.of (s1 _ _ hm),⋯,⋯,⋯,λt u k H' s9 ht hu hk ha hb ht' hu'=>?_⟩;have hp:(0:Int) < (ms.length:Int):=⋯;have h0:=Int.emod_nonneg ((s.h:Int)+(k:Int)) (Int.ne_of_gt hp);have h2:=Int.emod_lt_of_pos ((s.h:Int)+(k:Int)) hp;refine⟨(((s.h:Int)+(k:Int)) % (ms.length:Int)).toNat,t,rfl,s9,u,rg ms.length s.h k,⟨k,hk,ha,hb,⋯,rfl⟩,⋯,?_,hu',hu⟩;rw[show (((((s.h:Int)+(k:Int)) % (ms.length:Int)).toNat:Nat):Int)=((s.h:Int)+(k:Int)) % (ms.length:Int) by omega];exact ht'
   rintro⟨i,t,e,ps,rfl,s2,hsw,hil,ht2,he2,he0⟩;have hS2:=hS1.same s2;refine wA (λσ G=>σ=[some (.ref z.p),some (oV c),some (.ref m),some .non,some (.ref t)]/\lA A.Aa A.Ad A.Ac G z {s with h:=(i+1) % s.fr.length}/\Ks z H G/\G t=some (.tup [.int (i:Int),.ref e])/\G e=some (.lst (ps.map V.int))) ?_ λU9 D9 hU9 hD9 σ3 G3=>?_
   ·obtain⟨dx9,h9⟩:=hS2.me;obtain⟨dx8,vs8,e1,e2,e3,e4,_⟩:=id hS2.fr;have l8:=Paired.length e3;have hmod:((i:Int)+1) % (vs8.length:Int)=(((i+1) % s.fr.length:Nat):Int):=by rw[l8,Int.natCast_emod,Int.natCast_add];rfl
    rfl';refine⟨_,cB.of ht2,.int i,xA (j:=0) rfl,(i:Int),rfl,_,dx9,_,h9,T.Ab,T.Af,_,wD,z.fp,rfl,_,dx8,_,e1,T.Ae,T.Ag,_,lD,vs8.length,.inl ⟨_,kA.of e2,rfl⟩,⋯,_,dx9,_,h9,T.Ab,T.A0,by show 7 < 1000;decide,?_⟩;rw[hmod,nJ];refine⟨hS2.num h9 rfl rfl (Nat.mod_lt _ ⋯) rfl rfl,JN (Ks.of (s1.trans s2)),?_,?_⟩
    ·rw[oA (bC ht2 h9 (λz=>nomatch z))];exact ht2
    ·rw[oA (bC he2 h9 (λz=>nomatch z))];exact he2
   rintro⟨rfl,hS3,k3,ht3,he3⟩;subst hU9 hD9;obtain⟨dx9,h9⟩:=hS3.me;have hh:=hS.hh;obtain⟨r,hr⟩:=hT.all f5 e9 hil;obtain⟨j,hsf,hj⟩:=hsl i;rfl';refine⟨_,cB.of ht3,.int i,xA (j:=0) rfl,_,cB.of ht3,.ref e,xA (j:=1) rfl,dx9,_,h9,EC ∅,_,cB.of ht3,.int i,xA (j:=0) rfl,z,_,i,j,c,r,rfl,hS3,hT.hand,hr,hok r (List.mem_of_getElem? hr),hj,hsf,λG4 o l hS4 ho htd hlf k4 t4 ht4=>?_⟩;have hep:e≠z.p:=λz9=>by rw[z9,s1 _ _ h1] at he0;cases he0
   have hef:=nf (NB s1 he0);have he4:=k4 _ _ he3 hep hef;have s5:iA G4 (upd G4 t4 (.tup [V.int (i:Int),V.ref e,V.ref o])):=HB iB ht4;exact q _ _ i ps (some (j,r)) t4 e (.ref o) (.inr ⟨e9,r,j,hsw,hr,hsf,hj,rfl,rfl⟩) (hS4.same s5) OA (s5 _ _ he4) ⟨o,l,rfl,s5 _ _ ho,htd.same s5,hlf⟩ hef ((k3.trans k4).trans (Ks.of s5))
noncomputable def oE (s:St):List Addr:=SB (s.fr++s.sr)
theorem lA.hd {C P S:Addr} {H:Hp} {z:Ss} {s:St} (h:lA C P S H z s):∀a∈oE s,∃kvs,H a=some (.dT kvs):=λa ha=>by
 obtain⟨r,hr,rfl⟩:=XE.mp ha;obtain⟨_,_,_,_,f3,_⟩:=h.fr;obtain⟨_,_,_,_,g3,_⟩:=h.sl;rcases List.mem_append.mp hr with hr|hr
 ·obtain⟨i,hi⟩:=List.mem_iff_getElem?.mp hr;obtain⟨_,_,_,_,_,e⟩:=mF f3 hi;exact⟨_,e⟩
 ·obtain⟨i,hi⟩:=List.mem_iff_getElem?.mp hr;obtain⟨_,_,_,_,_,e⟩:=mF g3 hi;exact⟨_,e⟩
theorem xW {s:St} {i j:Nat} {r:Sh}:(IB s i j r).fr.length=s.fr.length/\(IB s i j r).sr.length=s.sr.length:=by
 obtain⟨e1,e2,_⟩:=eG (s:=s) (i:=i) (j:=j) (r:=r);rw[e1,e2,List.length_set,List.length_set];exact⟨rfl,rfl⟩
theorem gD.facts {s s1:St} {c:Option Nat} {ms:List Bool} {i:Nat} {ps:List Int} {out:Option (Nat×Sh)} (h:gD s c ms s1 i ps out) (hT:Tw s):s1.fr[i]?=some none/\s1.fr.length=s.fr.length/\s1.sr.length=s.sr.length/\(∀r,some r∈s1.fr\/some r∈s1.sr->some r∈s.fr\/some r∈s.sr)/\Tw s1/\(∀b,s1.tf[i]?≠some (some b))/\((∀j q,out=some (j,q)->s.sr[j]?=some none)->(oE s1).Perm (oE s)):=by
 rcases h with ⟨h1,rfl,_,rfl⟩|⟨h1,q,j,hsw,hq,hsf,hj,rfl,rfl⟩
 ·obtain⟨e1,e2⟩:=vK h1;exact⟨e1,rfl,rfl,λr h=>h,hT,(λb z=>by rw[e2] at z;cases z),λ_=>List.Perm.refl _⟩
 ·obtain⟨e1,e2,_⟩:=eG (s:={s with h:=(i+1) % s.fr.length}) (i:=i) (j:=j) (r:=q);have e1:(IB {s with h:=(i+1) % s.fr.length} i j q).fr=s.fr.set i none:=e1;have e2:(IB {s with h:=(i+1) % s.fr.length} i j q).sr=s.sr.set j (some q):=e2;obtain⟨l1,l2⟩:=xW (s:={s with h:=(i+1) % s.fr.length}) (i:=i) (j:=j) (r:=q);obtain⟨t1,t2⟩:=(hT.hand (h:=(i+1) % s.fr.length)).out (r:=q) (j:=j) λb hb=>NN (s:=s) hsf hb;refine⟨?_,l1,l2,λr hr=>?_,t1,t2,λhn=>?_⟩
  ·rw[e1];exact List.getElem?_set_self (List.getElem?_eq_some_iff.mp hq).1
  ·rw[e1,e2] at hr;rcases hr with hr|hr
   ·rcases List.mem_or_eq_of_mem_set hr with h|h
    ·exact .inl h
    ·cases h
   ·rcases List.mem_or_eq_of_mem_set hr with h|h
    ·exact .inr h
    ·cases h;exact .inl (List.mem_of_getElem? hq)
  ·unfold oE;rw[e1,e2,SC,SC];refine ((List.Perm.refl _).append (dG (hn j q rfl))).trans ?_;exact List.perm_middle.trans ((QH hq).symm.append_right _)
theorem lA.lens {C P S:Addr} {H:Hp} {z:Ss} {s:St} (h:lA C P S H z s):s.tf.length=s.fr.length/\s.ts.length=s.sr.length:=by
 obtain⟨_,_,_,_,_,_,f5⟩:=h.fr;obtain⟨_,_,_,_,_,_,g5⟩:=h.sl;exact⟨f5,g5⟩
theorem Tw.fill {s:St} {i:Nat} {r:Sh} (h:Tw s) (hi:∀b,s.tf[i]?≠some (some b)):Tw {s with fr:=s.fr.set i (some r)}:=⟨h.there,h.back,λa b hab=>by
 show ∃r',(s.fr.set i (some r))[a]?=some (some r');rw[List.getElem?_set,if_neg (λe=>hi b (by rw[e];exact hab))];exact h.full a b hab,h.bare⟩
theorem Ks.was {C P S:Addr} {z:Ss} {s s':St} {H G:Hp} (k:Ks z H G) (h:lA C P S H z s) (h':lA C P S G z s') {c:Addr} (hc:G c=none):H c=none:=by
 cases e:H c with
 |none=>rfl
 |some o=>
  by_cases c1:c=z.p
  ·obtain⟨dx,h1⟩:=h'.me;rw[c1,h1] at hc;cases hc
  ·by_cases c2:c∈z.four
   ·exact absurd c2 (h'.nf hc)
   ·have:=k c o e c1 c2;rw[hc] at this;cases this
noncomputable def HZ (C P S O:Addr):Sp:=λvs H Q E=>∃(z:Ss) (s:St) (l h m:Addr) (bs:List Int) (k:List Key) (ms:List Bool),vs=[.ref z.p,.ref l,.ref h,.ref m]/\lA C P S H z s/\Ap s/\Tw s/\H l=some (.lst (bs.map V.int))/\l∉z.four/\H h=some (.tup (k.map kV))/\H m=some (.lst (ms.map V.bl))/\ms.length=s.fr.length/\(∀r,some r∈s.fr->IE r)/\
 if wB s < room s then ∀H' s1 i ps out t e v3 r,gD s none ms s1 i ps out->lA C P S H' z {s1 with fr:=s1.fr.set i (some r)}->Ap {s1 with fr:=s1.fr.set i (some r)}->Tw {s1 with fr:=s1.fr.set i (some r)}->r.b=bs->r.ks=[k]->H r.bx=none->H' t=some (.tup [.int (i:Int),.ref e,v3])->H' e=some (.lst (ps.map V.int))->OB z.four H' v3 out->e∉z.four->Ks z H H'->Q (.ref t) H'
 else ∀H',iA H H'->E (.ref O) none H'
theorem IZ (T:MB K mg A):FA P w K mg base A.Aa "fresh" 5 ["self","sheet","holder","marks"] [] (HZ A.Aa A.Ad A.Ac A.A4):=by
 have Do:=@tJ P w K mg base A T;have Az:=@bM P w K mg base A T;have Et:=@RL P w K mg base A T;refine T.Ds.have RV (λvs H Q E z=>?_) ?_
 ·obtain⟨z,s,l,h,m,bs,k,ms,rfl,_⟩:=z;rfl
 ·intro f cdv A' outer s H vs Q E hr z;obtain⟨z,s,l,h,m,bs,k,ms,rfl,hS,hA,hT,hl,hlf,hh,hm,hml,hok,q⟩:=z;obtain⟨dx,h1⟩:=hS.me;refine⟨_,(aB (GB (XD (vD (aA 0) T.Ab Do (hr.mono (by decide)) ZA)) (BA (aY AI rfl T.Fb (dA JD nA))) XB)
   (nB (mB (i:=4) RV.nd rfl (Or.inl rfl) (QD (aA 0) T.Ab Az (hr.mono (by decide)) ZA (dA lB (dA (aA 3) nA))))
   (aB (tD (VM Et (hr.mono (by decide)) ZA (dA (aA 1) (dA (aA 2) nA))) (sD (LA (LA (aA 0) rfl) rfl) (yA oC (aA 4) rA (λ_ _=>rfl)) uD))
   (BA (zB (aA 4)))))),?_⟩
  unfold nW jW;rfl';simp only[h1];rfl';refine⟨EC ∅,z,rfl,s,hS,λH1 s1=>?_⟩;by_cases c:wB s < room s
  ·rw[if_pos c] at q;rw[if_neg (by unfold room at c;omega)];have hS1:=hS.same s1;refine wA (λσ G=>∃s2 i ps out t e v3,σ=[some (.ref z.p),some (.ref l),some (.ref h),some (.ref m),some (.ref t)]/\gD s none ms s2 i ps out/\lA A.Aa A.Ad A.Ac G z s2/\G t=some (.tup [.int (i:Int),.ref e,v3])/\G e=some (.lst (ps.map V.int))/\OB z.four G v3 out/\e∉z.four/\Ks z H G) ?_ λU9 D9 hU9 hD9 σ2 G2=>?_
   ·rfl';refine⟨dx,_,s1 _ _ h1,EC ∅,z,s,none,m,ms,rfl,hS1,hT,s1 _ _ hm,hml,λe9=>⟨λi=>vQ hT hS.lens.1 hS.lens.2 c e9,hok⟩,λH' s2 i ps out t e v3 a1 a2 a3 a4 a5 a6 a7=>?_⟩;exact⟨s2,i,ps,out,t,rfl,a1,a2,e,v3,a3,a4,a5,a6,(Ks.of s1).trans a7⟩
   rintro⟨s2,i,ps,out,t,e,v3,rfl,a1,hS2,a3,a4,a5,a6,k2⟩;subst hU9 hD9;obtain⟨fi,fl1,fl2,fm,ft,fb,fp⟩:=a1.facts hT;have fp:=fp λj q e=>by
    rcases a1 with ⟨_,_,_,rfl⟩|⟨_,q2,j2,_,_,hsf,_,_,rfl⟩
    ·cases e
    ·cases e;rcases ZL hT hsf with h|⟨h,_⟩
     ·exact h
     ·cases h
   have hp2:∀{c:Addr} {o:HO},H c=some o->(∀D d fs,o≠.ins D d fs)->c≠z.p:=λhc hn z9=>by rw[z9,h1] at hc;exact hn _ _ _ (Option.some.inj hc).symm
   have hl2:=k2 _ _ hl (hp2 hl (λ_ _ _ z=>nomatch z)) hlf;have nlt:∀{c:Addr} {us:List V},H c=some (.tup us)->c∉z.four:=λhc z9=>by obtain⟨ws,h9⟩:=hS.fours _ z9;rw[hc] at h9;cases h9
   have hh2:=k2 _ _ hh (hp2 hh (λ_ _ _ z=>nomatch z)) (nlt hh);rfl';intro sh sdx hsh hsdx hne;have sm:=WM (o:=.ins A.Ac sdx []) hsh hsdx hne;refine⟨bs,sm _ _ hl2,k,sm _ _ hh2,λbx hd G3 hbx hhd kp3 b1 b2 b3=>?_⟩;have s23:iA G2 G3:=λc o hc=>kp3 c o (sm c o hc) (λz=>BB hc hsh (List.mem_singleton.mp z));have hS3:=hS2.same s23;obtain⟨dx9,h9⟩:=hS3.me;obtain⟨dx1,vs1,f1,f2,f3,f4,_⟩:=id hS3.fr;have hvl:=Paired.length f3;have hil:=(List.getElem?_eq_some_iff.mp fi).1;have hbx2:=NB sm hbx;have hhd2:=NB sm hhd;have hbf:=hS2.nf hbx2;refine⟨_,dx9,_,h9,T.Ab,T.Af,_,wD,z.fp,rfl,_,dx1,_,f1,T.Ae,T.Ag,_,lD,_,cB.of (s23 _ _ a3),.int i,xA (j:=0) rfl,z.ly,rfl,vs1,i,rfl,f2,i,pD (by rw[hvl];exact hil),?_⟩;have keep:∀{c:Addr} {o:HO},G3 c=some o->c∉z.four->upd G3 z.ly (.lst (vs1.set i (.ref sh))) c=some o:=λhc hn=>by rw[oA (λz9=>hn (by rw[z9];exact uF (f:=true)))];exact hc
   have nlt3:∀{c:Addr} {us:List V},G3 c=some (.tup us)->c∉z.four:=λhc z9=>by obtain⟨ws,h9⟩:=hS3.fours _ z9;rw[hc] at h9;cases h9
   refine q _ s2 i ps out t e v3 ⟨bs,[k],sh,bx,hd⟩ a1 (hS3.set (f:=true) (j:=i) (r:=some ⟨bs,[k],sh,bx,hd⟩) f2 ⟨rfl,⟨sdx,b1⟩,b2,b3⟩ (λq e=>by cases e;exact hbf)) ?_ (ft.fill fb) rfl rfl (k2.was hS hS2 hbx2) (keep (s23 _ _ a3) (nlt3 (s23 _ _ a3))) (keep (s23 _ _ a4) a6) ((a5.same s23).keep λc us hc=>?_) a6 (RH (f:=true) (k2.trans (Ks.of s23)))
   ·have nin:hd∉oE s2:=λz9=>by obtain⟨kvs,h8⟩:=hS2.hd _ z9;rw[hhd2] at h8;cases h8
    have:(oE s2).Nodup:=fp.nodup_iff.mpr hA;unfold Ap;show (SB (s2.fr.set i (some ⟨bs,[k],sh,bx,hd⟩)++s2.sr)).Nodup;rw[SC];refine ((dG (r:=⟨bs,[k],sh,bx,hd⟩) fi).append_right _).nodup_iff.mpr ?_;have e8:oE s2=SB s2.fr++SB s2.sr:=SC;rw[e8] at nin this;exact List.nodup_cons.mpr ⟨nin,this⟩
   ·rcases hc with hc|hc
    ·rw[hc];exact keep hc (nlt3 hc)
    ·rw[hc.1];exact keep hc.1 hc.2
  ·rw[if_neg c] at q;rw[if_pos (by unfold room at c;omega)];exact q H1 s1
theorem cM {S:Addr} {H H':Hp} {z:Ss} {s:St} {C dx:Addr} (e:H z.p=some (.ins C dx (QC z.n z.fp z.sq s))) (k:Ks z H H') {v:V} {r:Sh} (hb:r.bx∉z.four) (n2:∀c∈z.four,∃us,H c=some (.lst us)) (h:XA S H v (some r)):XA S H' v (some r):=by
 obtain⟨a,⟨d,h1⟩,h2,h3⟩:=h;have np:∀{c:Addr} {o:HO},H c=some o->(∀D d fs,o=.ins D d fs->fs.lookup ("hand":Str)=none)->c≠z.p:=λ{c o} hc hn e9=>by
  rw[e9,e] at hc;have:=hn _ _ _ (Option.some.inj hc).symm;rw[QL] at this;cases this
 have nl:∀{c:Addr} {o:HO},H c=some o->(∀us,o≠.lst us)->c∉z.four:=λhc hn z9=>by obtain⟨us,h9⟩:=n2 _ z9;rw[h9] at hc;exact hn _ (Option.some.inj hc).symm
 exact⟨a,⟨d,k _ _ h1 (np h1 λ_ _ _ z=>by cases z;exact KH ∅) (nl h1 λ_ z=>nomatch z)⟩,k _ _ h2 (np h2 λ_ _ _ z=>nomatch z) hb,k _ _ h3 (np h3 λ_ _ _ z=>nomatch z) (nl h3 λ_ z=>nomatch z)⟩
theorem JZ {fr sr:List (Option Sh)} {i j:Nat} {q c:Sh} (hq:fr[i]?=some (some q)) (hc:sr[j]?=some (some c)):(SB (fr.set i (some c)++sr.set j (some q))).Perm (SB (fr++sr)):=by
 rw[SC,SC];have a1:=dG (rows:=fr.set i none) (j:=i) (r:=c) (List.getElem?_set_self (List.getElem?_eq_some_iff.mp hq).1);have a2:=dG (rows:=sr.set j none) (j:=j) (r:=q) (List.getElem?_set_self (List.getElem?_eq_some_iff.mp hc).1);rw[List.set_set] at a1 a2;refine (a1.append a2).trans (List.Perm.trans ?_ ((QH hq).append (QH hc)).symm);exact (List.Perm.cons _ List.perm_middle).trans ((List.Perm.swap ..).trans (List.Perm.cons _ List.perm_middle.symm))
theorem KZ {fr sr:List (Option Sh)} {i j:Nat} {c:Sh} (hi:fr[i]?=some none) (hc:sr[j]?=some (some c)):(SB (fr.set i (some c)++sr.set j none)).Perm (SB (fr++sr)):=by
 rw[SC,SC];refine ((dG hi).append_right _).trans (List.Perm.trans ?_ ((QH hc).append_left _).symm);exact List.perm_middle.symm
noncomputable def iD (s1:St) (i j:Nat) (c:Sh) (out:Option (Nat×Sh)):St:=if out.map (·.1)=some j then s1.put true i (some c) else (((s1.put true i (some c)).put false j none).tie false j (some i)).tie true i (some j)
noncomputable def gB (s1:St) (i j:Nat) (c:Sh) (out:Option (Nat×Sh)):St:={iD s1 i j c out with cb:=s1.cb+1}
theorem wJ {s1:St} {i j:Nat} {c:Sh} {out:Option (Nat×Sh)}:(gB s1 i j c out).fr=s1.fr.set i (some c)/\(gB s1 i j c out).sr=(if out.map (·.1)=some j then s1.sr else s1.sr.set j none)/\(gB s1 i j c out).tf=(if out.map (·.1)=some j then s1.tf else s1.tf.set i (some j))/\(gB s1 i j c out).ts=(if out.map (·.1)=some j then s1.ts else s1.ts.set j (some i))/\(gB s1 i j c out).h=s1.h/\(gB s1 i j c out).go=s1.go/\(gB s1 i j c out).ga=s1.ga/\(gB s1 i j c out).cb=s1.cb+1:=by
 unfold gB iD
 split<;>exact⟨rfl,rfl,rfl,rfl,rfl,rfl,rfl,rfl⟩
theorem gD.slot {s s1:St} {ms:List Bool} {i j:Nat} {ps:List Int} {out:Option (Nat×Sh)} {c:Sh} (h:gD s (some j) ms s1 i ps out) (hT:Tw s) (hc:s.sr[j]?=some (some c)):(out.map (·.1)=some j/\∃q,s.fr[i]?=some (some q)/\s1.fr=s.fr.set i none/\s1.sr=s.sr.set j (some q))\/(out.map (·.1)≠some j/\s1.sr[j]?=some (some c)/\(∀j q,out=some (j,q)->s.sr[j]?=some none)):=by
 rcases h with ⟨h1,rfl,_,rfl⟩|⟨h1,q,j2,hsw,hq,hsf,hj,rfl,rfl⟩
 ·exact .inr ⟨(λz=>by cases z),hc,λj q z=>by cases z⟩
 ·obtain⟨e1,e2,_⟩:=eG (s:={s with h:=(i+1) % s.fr.length}) (i:=i) (j:=j2) (r:=q);by_cases e:j2=j
  ·subst e;exact .inl ⟨rfl,q,hq,e1,e2⟩
  ·refine .inr ⟨λz=>e (Option.some.inj z),?_,λj3 q3 z=>?_⟩
   ·rw[e2,List.getElem?_set,if_neg e];exact hc
   ·cases z;rcases ZL hT hsf with h|⟨h,_⟩
    ·exact h
    ·exact absurd (Option.some.inj h).symm e
theorem gD.back {s s1:St} {ms:List Bool} {i j:Nat} {ps:List Int} {out:Option (Nat×Sh)} {c:Sh} (h:gD s (some j) ms s1 i ps out) (hT:Tw s) (hA:Ap s) (hl:s1.tf.length=s1.fr.length) (hl2:s1.ts.length=s1.sr.length) (hc:s.sr[j]?=some (some c)):Ap (gB s1 i j c out)/\Tw (gB s1 i j c out):=by
 obtain⟨b1,b2,b3,b4,_⟩:=wJ (s1:=s1) (i:=i) (j:=j) (c:=c) (out:=out);obtain⟨f1,f2,f3,f4,f5,f6,f7⟩:=h.facts hT;rcases h.slot hT hc with ⟨h1,q,h2,h3,h4⟩|⟨h1,h2,h3⟩
 ·rw[if_pos h1] at b2 b3 b4;constructor
  ·unfold Ap;rw[b1,b2,h3,h4,List.set_set];exact (JZ h2 hc).nodup_iff.mpr hA
  ·have:=f5.fill (r:=c) f6;exact⟨by rw[b3,b4];exact this.there,by rw[b3,b4];exact this.back,by rw[b1,b3];exact this.full,by rw[b2,b4];exact this.bare⟩
 ·rw[if_neg h1] at b2 b3 b4;have hil:=(List.getElem?_eq_some_iff.mp f1).1;have hjl:=(List.getElem?_eq_some_iff.mp h2).1;have tn:∀a,s1.ts[j]?≠some (some a):=λa z=>by have:=f5.bare a j z;rw[h2] at this;cases this
  constructor
  ·unfold Ap;rw[b1,b2];exact (KZ f1 h2).nodup_iff.mpr ((f7 h3).nodup_iff.mpr hA)
  ·refine⟨λa b hab=>?_,λa b hab=>?_,λa b hab=>?_,λa b hab=>?_⟩
   ·rw[b3,List.getElem?_set] at hab;rw[b4,List.getElem?_set];by_cases e:i=a
    ·subst e;rw[if_pos rfl,if_pos ⋯] at hab;obtain rfl:j=b:=Option.some.inj (Option.some.inj hab);rw[if_pos rfl,if_pos ⋯]
    ·rw[if_neg e] at hab;have:=f5.there a b hab;rw[if_neg (λz=>tn a (by rw[z];exact this))];exact this
   ·rw[b4,List.getElem?_set] at hab;rw[b3,List.getElem?_set];by_cases e:j=b
    ·subst e;rw[if_pos rfl,if_pos ⋯] at hab;obtain rfl:i=a:=Option.some.inj (Option.some.inj hab);rw[if_pos rfl,if_pos ⋯]
    ·rw[if_neg e] at hab;have:=f5.back a b hab;rw[if_neg (λz=>f6 b (by rw[z];exact this))];exact this
   ·rw[b1,List.getElem?_set];by_cases e:i=a
    ·subst e;rw[if_pos rfl,if_pos ⋯];exact⟨c,rfl⟩
    ·rw[b3,List.getElem?_set,if_neg e] at hab;rw[if_neg e];exact f5.full a b hab
   ·rw[b2,List.getElem?_set];by_cases e:j=b
    ·subst e;rw[if_pos rfl,if_pos ⋯]
    ·rw[b4,List.getElem?_set,if_neg e] at hab;rw[if_neg e];exact f5.bare a b hab
noncomputable def LZ (C P S:Addr):Sp:=λvs H Q _=>∃(z:Ss) (s:St) (j:Nat) (m:Addr) (ms:List Bool) (c:Sh),vs=[.ref z.p,.int j,.ref m]/\lA C P S H z s/\Ap s/\Tw s/\H m=some (.lst (ms.map V.bl))/\ms.length=s.fr.length/\(∀r,some r∈s.fr->IE r)/\s.sr[j]?=some (some c)/\
 ∀H' s1 i ps out t e v3,gD s (some j) ms s1 i ps out->lA C P S H' z (gB s1 i j c out)->Ap (gB s1 i j c out)->Tw (gB s1 i j c out)->H' t=some (.tup [.int (i:Int),.ref e,v3])->H' e=some (.lst (ps.map V.int))->OB z.four H' v3 out->e∉z.four->Ks z H H'->Q (.ref t) H'
theorem xJ (T:MB K mg A):FA P w K mg base A.Aa "back" 5 ["self","slot","marks"] [] (LZ A.Aa A.Ad A.Ac):=by
 have Az:=@bM P w K mg base A T;refine T.D6.have sP (λvs H Q E z=>?_) ?_
 ·obtain⟨z,s,j,m,ms,c,rfl,_⟩:=z;rfl
 ·intro f cdv A' outer s H vs Q E hr z;obtain⟨z,s,j,m,ms,c,rfl,hS,hA,hT,hm,hml,hok,hc,q⟩:=z;obtain⟨dx,h1⟩:=hS.me;obtain⟨dx2,vs2,g1,g2,g3,g4,g5⟩:=id hS.sl;obtain⟨v,hv1,hv2⟩:=mF g3 hc;obtain⟨rfl,_⟩:=id hv2;have hjl:=(List.getElem?_eq_some_iff.mp hc).1;have hbc:=hS.bx c (.inr (List.mem_of_getElem? hc));refine⟨_,(aB (mB (i:=3) sP.nd rfl (Or.inl rfl) (yA SA (LA (LA (aA 0) rfl) rfl) (aA 1) (λ_ _=>rfl)))
   (nB (mB (i:=4) sP.nd rfl (Or.inl rfl) (QD (aA 0) T.Ab Az (hr.mono (by decide)) ZA (dA (aA 1) (dA (aA 2) nA))))
   (nB (tD (aA 3) (sD (LA (LA (aA 0) rfl) rfl) (yA oC (aA 4) rA (λ_ _=>rfl)) uD))
   (nB (GB (PW.pt (LK (qB LD (yA oC (aA 4) rA (λ_ _=>rfl)) lB (gA _)) (JK (qB lO (yA oC (yA oC (aA 4) rA (λ_ _=>rfl)) rA (λ_ _=>rfl)) (aA 1) (gA _))))) (aB (tD lB (sD (LA (LA (aA 0) rfl) rfl) (aA 1) uD))
   (aB (tD (yA oC (aA 4) rA (λ_ _=>rfl)) (sD (LA (LA (aA 0) rfl) rfl) (aA 1) uD))
   (BA (tD (aA 1) (sD (LA (LA (aA 0) rfl) rfl) (yA oC (aA 4) rA (λ_ _=>rfl)) uD))))) XB)
   (aB (yE (aA 0) (VA zD (LA (aA 0) rfl) rA) rfl)
   (BA (zB (aA 4)))))))),?_⟩
  rfl';simp only[h1];rfl';refine⟨T.Ab,T.Ah,_,YD,z.sq,rfl,_,dx2,_,g1,T.Ae,T.Ag,_,lD,z.ls,rfl,_,kA.of g2,_,xA hv1,?_⟩;refine wA (λσ G=>∃s1 i ps out t e v3,σ=[some (.ref z.p),some (.int j),some (.ref m),some (.ref c.sh),some (.ref t)]/\gD s (some j) ms s1 i ps out/\lA A.Aa A.Ad A.Ac G z s1/\G t=some (.tup [.int (i:Int),.ref e,v3])/\G e=some (.lst (ps.map V.int))/\OB z.four G v3 out/\e∉z.four/\Ks z H G) ?_ λU9 D9 hU9 hD9 σ2 G2=>?_
  ·rfl';refine⟨dx,_,h1,EC ∅,z,s,some j,m,ms,rfl,hS,hT,hm,hml,λ_=>⟨λi=>uQ hT g5 λ_ _=>⟨j,rfl,hjl⟩,hok⟩,λH' s1 i ps out t e v3 a1 a2 a3 a4 a5 a6 a7=>?_⟩;exact⟨s1,i,ps,out,t,rfl,a1,a2,e,v3,a3,a4,a5,a6,a7⟩
  rintro⟨s1,i,ps,out,t,e,v3,rfl,a1,hS2,ht2,he2,ho2,hef,k2⟩;subst hU9 hD9;obtain⟨f1,_⟩:=a1.facts hT;have hil:=(List.getElem?_eq_some_iff.mp f1).1;have sh2:=cM h1 k2 hbc hS.fours hv2;have hsl:=a1.slot hT hc;obtain⟨b1,b2⟩:=a1.back hT hA hS2.lens.1 hS2.lens.2 hc;refine wA (λσ G=>σ=[some (.ref z.p),some (.int j),some (.ref m),some (.ref c.sh),some (.ref t)]/\lA A.Aa A.Ad A.Ac G z (s1.put true i (some c))/\G t=some (.tup [.int (i:Int),.ref e,v3])/\G e=some (.lst (ps.map V.int))/\OB z.four G v3 out/\Ks z H G) ?_ λU9 D9 hU9 hD9 σ3 G3=>?_
  ·obtain⟨dx9,h9⟩:=hS2.me;obtain⟨dx8,vs8,e1,e2,e3,e4,e5⟩:=id hS2.fr;have l8:=Paired.length e3;rfl';refine⟨_,dx9,_,h9,T.Ab,T.Af,_,wD,z.fp,rfl,_,dx8,_,e1,T.Ae,T.Ag,_,lD,_,cB.of ht2,.int i,xA (j:=0) rfl,z.ly,rfl,vs8,i,rfl,e2,i,pD (by rw[l8];exact hil),?_⟩;refine⟨hS2.set (f:=true) (j:=i) (r:=some c) e2 sh2 (λq e=>by cases e;exact hbc),by rw[oA (bC ht2 e2 (λz=>nomatch z))];exact ht2,by rw[oA (λz9=>hef (by rw[z9];exact uF (f:=true)))];exact he2,ho2.keep λa us ha=>?_,RH (f:=true) k2⟩;rcases ha with ha|ha
   ·rw[oA (bC ha e2 (λz=>nomatch z))]
   ·rw[oA (λz9=>ha.2 (by rw[z9];exact uF (f:=true)))]
  rintro⟨rfl,hS3,ht3,he3,ho3,k3⟩;subst hU9 hD9;refine wA (λσ G=>σ=[some (.ref z.p),some (.int j),some (.ref m),some (.ref c.sh),some (.ref t)]/\lA A.Aa A.Ad A.Ac G z (iD s1 i j c out)/\G t=some (.tup [.int (i:Int),.ref e,v3])/\G e=some (.lst (ps.map V.int))/\OB z.four G v3 out/\Ks z H G) ?_ λU9 D9 hU9 hD9 σ4 G4=>?_
  ·rfl';have ntf:∀{c:Addr} {us:List V},G3 c=some (.tup us)->c∉z.four:=λhc z9=>by obtain⟨ws,h9⟩:=hS3.fours _ z9;rw[hc] at h9;cases h9
   have nti:∀{c:Addr} {o:HO},G3 c=some o->(hn:∀D d fs,o≠.ins D d fs:=by intro _ _ _ z;cases z)->c≠z.p:=λhc hn z9=>by obtain⟨dx,h1⟩:=hS3.me;rw[z9,h1] at hc;exact hn _ _ _ (Option.some.inj hc).symm
   obtain⟨dx9,h9⟩:=hS3.me;obtain⟨dx8,vs8,e1,e2,e3,e4,e5⟩:=id hS3.sl;have l8:vs8.length=s1.sr.length:=Paired.length e3;have hln:=hS2.lens;have hjl1:j < s1.sr.length:=by have:=(a1.facts hT).2.2.1;omega
   refine⟨_,cB.of ht3,v3,xA (j:=2) rfl,?_⟩;cases out with
   |none=>
    obtain rfl:v3=.non:=id ho3;rw[if_pos rfl];have nout:(none:Option (Nat×Sh)).map (·.1)≠some j:=λz=>by cases z
    have eb:iD s1 i j c none=(((s1.put true i (some c)).put false j none).tie false j (some i)).tie true i (some j):=by unfold iD;rw[if_neg nout]
    rw[eb];have S5:=hS3.set (f:=false) (j:=j) (r:=none) e2 rfl (λq e=>nomatch e);have k5:Ks z G3 (upd G3 z.ls (.lst (vs8.set j .non))):=RH (f:=false) (Ks.of iB);refine⟨_,dx9,_,h9,T.Ab,T.Ah,_,YD,z.sq,rfl,_,dx8,_,e1,T.Ae,T.Ag,_,lD,z.ls,rfl,vs8,e2,j,pD (by rw[l8];exact hjl1),?_⟩;have S5:lA A.Aa A.Ad A.Ac (upd G3 z.ls (.lst (vs8.set j .non))) z ((s1.put true i (some c)).put false j none):=S5;generalize upd G3 z.ls _=G5 at *;obtain⟨dy,y1⟩:=S5.me;obtain⟨dz,ws,y2,y3,y4,y5,y6⟩:=id S5.sl;have y5:G5 z.ts=some (.lst (s1.ts.map oV)):=y5;have ht5:=k5 _ _ ht3 (nti ht3) (ntf ht3);refine⟨_,cB.of ht5,.int i,xA (j:=0) rfl,_,dy,_,y1,T.Ab,T.Ah,_,YD,z.sq,rfl,_,dz,_,y2,T.Ae,T.Ai,_,sE,z.ts,rfl,_,y5,j,pD (by rw[List.length_map];omega),?_⟩;have S6:lA A.Aa A.Ad A.Ac (upd G5 z.ts (.lst ((s1.ts.map oV).set j (V.int (i:Int))))) z _:=S5.tie (f:=false) (j:=j) (o:=some i);have k6:Ks z G3 (upd G5 z.ts (.lst ((s1.ts.map oV).set j (V.int (i:Int))))):=tK (f:=false) k5;generalize upd G5 z.ts _=G6 at *;obtain⟨dw,x1⟩:=S6.me;obtain⟨dv,us,x2,x3,x4,x5,x6⟩:=id S6.fr;have x5:G6 z.tw=some (.lst (s1.tf.map oV)):=x5;have ht6:=k6 _ _ ht3 (nti ht3) (ntf ht3);refine⟨_,dw,_,x1,T.Ab,T.Af,_,wD,z.fp,rfl,_,dv,_,x2,T.Ae,T.Ai,_,sE,_,cB.of ht6,.int i,xA (j:=0) rfl,z.tw,rfl,_,i,rfl,x5,i,pD (by rw[List.length_map];omega),?_⟩;have S7:lA A.Aa A.Ad A.Ac (upd G6 z.tw (.lst ((s1.tf.map oV).set i (V.int (j:Int))))) z _:=S6.tie (f:=true) (j:=i) (o:=some j);have k7:Ks z G3 (upd G6 z.tw (.lst ((s1.tf.map oV).set i (V.int (j:Int))))):=tK (f:=true) k6;exact⟨S7,k7 _ _ ht3 (nti ht3) (ntf ht3),k7 _ _ he3 (nti he3) hef,ho3.keep (λa us ha=>by
     rcases ha with ha|ha
     ·rw[ha];exact k7 _ _ ha (nti ha) (ntf ha)
     ·rw[ha.1];exact k7 _ _ ha.1 (nti ha.1) ha.2),k3.trans k7⟩
   |some jq=>
    obtain⟨j2,q2⟩:=jq;obtain⟨o,l,rfl,d1,d2⟩:=id ho3;rw[if_neg (λz=>nomatch z)];refine⟨_,cB.of ht3,.ref o,xA (j:=2) rfl,o,rfl,_,cB.of d1,.int j2,xA (j:=0) rfl,rfl,?_⟩;by_cases c9:j2=j
    ·subst c9;have eb:iD s1 i j2 c (some (j2,q2))=s1.put true i (some c):=by unfold iD;exact if_pos rfl
     rw[eb];exact wF (by simp) ⟨hS3,ht3,he3,ho3,k3⟩
    refine mE (by simp;omega) ?_;have nout:(some (j2,q2)).map (·.1)≠some j:=λz=>c9 (Option.some.inj z);have eb:iD s1 i j c (some (j2,q2))=(((s1.put true i (some c)).put false j none).tie false j (some i)).tie true i (some j):=by unfold iD;rw[if_neg nout]
    rw[eb];have S5:=hS3.set (f:=false) (j:=j) (r:=none) e2 rfl (λq e=>nomatch e);have k5:Ks z G3 (upd G3 z.ls (.lst (vs8.set j .non))):=RH (f:=false) (Ks.of iB);refine⟨_,dx9,_,h9,T.Ab,T.Ah,_,YD,z.sq,rfl,_,dx8,_,e1,T.Ae,T.Ag,_,lD,z.ls,rfl,vs8,e2,j,pD (by rw[l8];exact hjl1),?_⟩;have S5:lA A.Aa A.Ad A.Ac (upd G3 z.ls (.lst (vs8.set j .non))) z ((s1.put true i (some c)).put false j none):=S5;generalize upd G3 z.ls _=G5 at *;obtain⟨dy,y1⟩:=S5.me;obtain⟨dz,ws,y2,y3,y4,y5,y6⟩:=id S5.sl;have y5:G5 z.ts=some (.lst (s1.ts.map oV)):=y5;have ht5:=k5 _ _ ht3 (nti ht3) (ntf ht3);refine⟨_,cB.of ht5,.int i,xA (j:=0) rfl,_,dy,_,y1,T.Ab,T.Ah,_,YD,z.sq,rfl,_,dz,_,y2,T.Ae,T.Ai,_,sE,z.ts,rfl,_,y5,j,pD (by rw[List.length_map];omega),?_⟩;have S6:lA A.Aa A.Ad A.Ac (upd G5 z.ts (.lst ((s1.ts.map oV).set j (V.int (i:Int))))) z _:=S5.tie (f:=false) (j:=j) (o:=some i);have k6:Ks z G3 (upd G5 z.ts (.lst ((s1.ts.map oV).set j (V.int (i:Int))))):=tK (f:=false) k5;generalize upd G5 z.ts _=G6 at *;obtain⟨dw,x1⟩:=S6.me;obtain⟨dv,us,x2,x3,x4,x5,x6⟩:=id S6.fr;have x5:G6 z.tw=some (.lst (s1.tf.map oV)):=x5;have ht6:=k6 _ _ ht3 (nti ht3) (ntf ht3);refine⟨_,dw,_,x1,T.Ab,T.Af,_,wD,z.fp,rfl,_,dv,_,x2,T.Ae,T.Ai,_,sE,_,cB.of ht6,.int i,xA (j:=0) rfl,z.tw,rfl,_,i,rfl,x5,i,pD (by rw[List.length_map];omega),?_⟩;have S7:lA A.Aa A.Ad A.Ac (upd G6 z.tw (.lst ((s1.tf.map oV).set i (V.int (j:Int))))) z _:=S6.tie (f:=true) (j:=i) (o:=some j);have k7:Ks z G3 (upd G6 z.tw (.lst ((s1.tf.map oV).set i (V.int (j:Int))))):=tK (f:=true) k6;exact⟨S7,k7 _ _ ht3 (nti ht3) (ntf ht3),k7 _ _ he3 (nti he3) hef,ho3.keep (λa us ha=>by
     rcases ha with ha|ha
     ·rw[ha];exact k7 _ _ ha (nti ha) (ntf ha)
     ·rw[ha.1];exact k7 _ _ ha.1 (nti ha.1) ha.2),k3.trans k7⟩
  rintro⟨rfl,hS4,ht4,he4,ho4,k4⟩;subst hU9 hD9;obtain⟨dx9,h9⟩:=hS4.me;have ecb:(iD s1 i j c out).cb=s1.cb:=by unfold iD;split<;>rfl
  rfl';refine⟨_,dx9,_,h9,T.Ab,T.Ar,_,iW,_,rfl,_,dx9,_,h9,T.Ab,T.Ar,by show 7 < 1000;decide,?_⟩;rw[qJ,ecb];refine q _ s1 i ps out t e v3 a1 ?_ b1 b2 ?_ ?_ ?_ hef (JN k4)
  ·exact hS4.num h9 rfl rfl hS4.hh rfl rfl
  ·rw[oA (bC ht4 h9 (λz=>nomatch z))];exact ht4
  ·rw[oA (bC he4 h9 (λz=>nomatch z))];exact he4
  ·refine ho4.keep λa us ha=>?_;rcases ha with ha|ha
   ·rw[oA (bC ha h9 (λz=>nomatch z))]
   ·rw[oA (bC ha.1 h9 (λz=>nomatch z))]
theorem ON:∀{rows:List (Option Sh)} {j:Nat},(SB (rows.set j none)).Sublist (SB rows)
 |[],_=>List.Sublist.refl _
 |x::l,0=>by
  cases x with
  |none=>exact List.Sublist.refl _
  |some y=>exact List.Sublist.cons _ (List.Sublist.refl _)
 |x::l,j+1=>by
  cases x with
  |none=>exact ON (rows:=l) (j:=j)
  |some y=>exact List.Sublist.cons₂ _ (ON (rows:=l) (j:=j))
theorem dM:∀{rows:List (Option Sh)} {i j:Nat} {r r':Sh},(SB rows).Nodup->rows[j]?=some (some r)->rows[i]?=some (some r')->i≠j->r'.hd≠r.hd
 |[],_,_,_,_,_,h,_,_=>by simp at h
 |x::l,0,0,_,_,_,_,_,h=>absurd rfl h
 |x::l,0,j+1,r,r',nd,h1,h2,_=>by
  simp at h1 h2;subst h2;have nd:(r'.hd::SB l).Nodup:=nd;exact λe=>(List.nodup_cons.mp nd).1 (XE.mpr ⟨r,List.mem_of_getElem? h1,e.symm⟩)
 |x::l,i+1,0,r,r',nd,h1,h2,_=>by
  simp at h1 h2;subst h1;have nd:(r.hd::SB l).Nodup:=nd;exact λe=>(List.nodup_cons.mp nd).1 (XE.mpr ⟨r',List.mem_of_getElem? h2,e⟩)
 |x::l,i+1,j+1,r,r',nd,h1,h2,hn=>by
  have nd:(SB l).Nodup:=by
   cases x with
   |none=>exact nd
   |some y=>exact (List.nodup_cons.mp (show (y.hd::SB l).Nodup from nd)).2
  exact dM nd (by simpa using h1) (by simpa using h2) ⋯
noncomputable def PN (C P S:Addr):Sp:=λvs H Q _=>∃(z:Ss) (s:St) (t:Addr) (f:Bool) (j:Nat) (r:Option Sh),vs=[.ref z.p,.ref t]/\lA C P S H z s/\H t=some (.tup [.str (mD f),.int j])/\(s.rw f)[j]?=some r/\∀v,XA S H v r->Q v H
theorem JG (T:MB K mg A):FA P w K mg base A.Aa "lying_at" 1 ["self","spot"] [] (PN A.Aa A.Ad A.Ac):=by
 refine T.Cq.have VV (λvs H Q E z=>?_) ?_
 ·obtain⟨z,s,t,f,j,r,rfl,_⟩:=z;rfl
 ·intro f cdv A' outer s H vs Q E hr z;obtain⟨z,s,t,f,j,r,rfl,hS,ht,hrj,q⟩:=z;obtain⟨dx,h1⟩:=hS.me;refine⟨_,(aB (mB (i:=2) VV.nd rfl (Or.inl rfl) (LM (qB vE (yA oC (aA 1) rA (λ_ _=>rfl)) JD (gA _)) (LA (aA 0) rfl) (LA (aA 0) rfl)))
   (BA (zB (yA SA (LA (aA 2) rfl) (yA oC (aA 1) rA (λ_ _=>rfl)) (λ_ _=>rfl))))),?_⟩
  rfl';simp only[h1];rfl';obtain⟨dx1,vs1,f1,f2,f3,f4⟩:=id hS.fr;obtain⟨dx2,vs2,g1,g2,g3,g4⟩:=id hS.sl;refine⟨_,cB.of ht,_,rfl,rfl,?_⟩;cases f with
  |true=>
   rw[if_pos (show V.str (mD true)=V.str "frame" from rfl)];obtain⟨v,hv1,hv2⟩:=mF f3 hrj;exact⟨T.Ab,T.Af,_,wD,z.fp,rfl,_,dx1,_,f1,T.Ae,T.Ag,_,lD,_,cB.of ht,_,rfl,z.ly,rfl,_,j,rfl,kA.of f2,v,xA hv1,q v hv2⟩
  |false=>
   rw[if_neg ∅];obtain⟨v,hv1,hv2⟩:=mF g3 hrj;exact⟨T.Ab,T.Ah,_,YD,z.sq,rfl,_,dx2,_,g1,T.Ae,T.Ag,_,lD,_,cB.of ht,_,rfl,z.ls,rfl,_,j,rfl,kA.of g2,v,xA hv1,q v hv2⟩
theorem QN {S hd:Addr} {H:Hp} {kvs:List (List Key×V)} {o:HO} (hl:H hd=some (.dT kvs)) {vs:List V} {rows:List (Option Sh)} (h:WB S H vs rows) (hb:∀r,some r∈rows->r.hd≠hd):WB S (upd H hd o) vs rows:=by
 induction h with
 |nil=>exact .nil
 |@cons x y _ _ h t ih=>
  refine .cons ?_ (ih λr hr=>hb r (List.mem_cons_of_mem _ hr));cases y with
  |none=>exact h
  |some r=>
   obtain⟨e,⟨dx,h1⟩,h2,h3⟩:=h;exact⟨e,⟨dx,by rw[oA (bC h1 hl (λz=>nomatch z))];exact h1⟩,by rw[oA (bC h2 hl (λz=>nomatch z))];exact h2,by rw[oA (hb r (List.mem_cons_self ..))];exact h3⟩
theorem SH {S:Addr} {H:Hp} {r:Sh} {kvs:List (List Key×V)} {ks:List (List Key)} (hl:H r.hd=some (.dT kvs)) {vs:List V} {rows:List (Option Sh)} (h:WB S H vs rows):∀{j:Nat},rows[j]?=some (some r)->(∀(i:Nat) q,i≠j->rows[i]?=some (some q)->q.hd≠r.hd)->WB S (upd H r.hd (.dT (RC ks))) vs (rows.set j (some {r with ks:=ks})):=by
 induction h with
 |nil=>intro j h _;simp at h
 |@cons x y xs ys h t ih=>
  intro j hj hb;cases j with
  |zero=>
   simp at hj;subst hj;obtain⟨e,⟨dx,h1⟩,h2,h3⟩:=h;refine .cons ⟨e,⟨dx,by rw[oA (bC h1 hl (λz=>nomatch z))];exact h1⟩,by rw[oA (bC h2 hl (λz=>nomatch z))];exact h2,OA⟩ (QN hl t λq hq=>?_);obtain⟨i,hi⟩:=List.mem_iff_getElem?.mp hq;exact hb (i+1) q ⋯ (by simpa using hi)
  |succ j=>
   refine .cons ?_ (ih (by simpa using hj) λi q hi hq=>hb (i+1) q ⋯ (by simpa using hq));cases y with
   |none=>exact h
   |some r9=>
    obtain⟨e,⟨dx,h1⟩,h2,h3⟩:=h;exact⟨e,⟨dx,by rw[oA (bC h1 hl (λz=>nomatch z))];exact h1⟩,by rw[oA (bC h2 hl (λz=>nomatch z))];exact h2,by rw[oA (hb 0 r9 ⋯ rfl)];exact h3⟩
theorem wQ:∀{rows:List (Option Sh)} {j:Nat} {r r':Sh},rows[j]?=some (some r)->r'.hd=r.hd->SB (rows.set j (some r'))=SB rows
 |[],_,_,_,h,_=>by simp at h
 |x::l,0,r,r',h,e=>by
  simp at h;subst h;show r'.hd::SB l=r.hd::SB l;rw[e]
 |x::l,j+1,r,r',h,e=>by
  have:=wQ (rows:=l) (j:=j) (by simpa using h) e;cases x with
  |none=>exact this
  |some y=>exact congrArg (y.hd::·) this
theorem xQ {s:St} {f:Bool} {j:Nat} {r r':Sh} (h:Ap s) (hr:(s.rw f)[j]?=some (some r)) (e:r'.hd=r.hd):Ap (s.put f j (some r')):=by
 unfold Ap at *;cases f with
 |true=>show (SB (s.fr.set j (some r')++s.sr)).Nodup;rw[SC,wQ (rows:=s.fr) hr e,<-SC];exact h
 |false=>show (SB (s.fr++s.sr.set j (some r'))).Nodup;rw[SC,wQ (rows:=s.sr) hr e,<-SC];exact h
theorem yW {s:St} {f:Bool} {j:Nat} (h:Ap s):Ap (s.put f j none):=by
 unfold Ap at *;rw[SC] at h;cases f with
 |true=>show (SB (s.fr.set j none++s.sr)).Nodup;rw[SC];exact h.sublist (List.Sublist.append_right ON _)
 |false=>show (SB (s.fr++s.sr.set j none)).Nodup;rw[SC];exact h.sublist (List.Sublist.append_left ON _)
theorem lA.ks {C P S:Addr} {H:Hp} {z:Ss} {s:St} {f:Bool} {j:Nat} {r:Sh} {ks:List (List Key)} (h:lA C P S H z s) (hA:Ap s) (hr:(s.rw f)[j]?=some (some r)) (hl:H r.hd=some (.dT (RC r.ks))):lA C P S (upd H r.hd (.dT (RC ks))) z (s.put f j (some {r with ks:=ks})):=by
 obtain⟨dx,h1⟩:=h.me;obtain⟨dx1,vs1,f1,f2,f3,f4⟩:=id h.fr;obtain⟨dx2,vs2,g1,g2,g3,g4⟩:=id h.sl;have np:∀{c o},H c=some o->(∀us,o≠.dT us)->upd H r.hd (.dT (RC ks)) c=some o:=λ{c o} hc ho=>by rw[oA (λz=>by rw[z,hl] at hc;exact ho _ (Option.some.inj hc).symm)];exact hc
 have bx2:∀q,some q∈(s.put f j (some {r with ks:=ks})).fr\/some q∈(s.put f j (some {r with ks:=ks})).sr->q.bx∉z.four:=λq hq=>(FN hq).elim (λe=>by
  cases e;refine h.bx r ?_;cases f with
  |true=>exact .inl (List.mem_of_getElem? hr)
  |false=>exact .inr (List.mem_of_getElem? hr)) (h.bx q)
 unfold Ap at hA;rw[SC] at hA;obtain⟨m1,m2,m3⟩:=List.nodup_append.mp hA;cases f with
 |true=>
  have hr:s.fr[j]?=some (some r):=hr;have f5:s.tf.length=(s.fr.set j (some {r with ks:=ks})).length:=by rw[List.length_set];exact f4.2
  have f4:=np f4.1 (λ_ z=>nomatch z);have len:=h.len;have hh:=h.hh;rw[<-List.length_set (as:=s.fr) (i:=j) (a:=some {r with ks:=ks})] at len hh;exact⟨⟨dx,np h1 (λ_ z=>nomatch z)⟩,⟨dx1,vs1,np f1 (λ_ z=>nomatch z),np f2 (λ_ z=>nomatch z),SH hl f3 hr (λi q hi hq=>dM m1 hr hq hi),f4,f5⟩,⟨dx2,vs2,np g1 (λ_ z=>nomatch z),np g2 (λ_ z=>nomatch z),QN hl g3 (λq hq e=>m3 r.hd (XE.mpr ⟨r,List.mem_of_getElem? hr,rfl⟩) q.hd (XE.mpr ⟨q,hq,rfl⟩) e.symm),np g4.1 (λ_ z=>nomatch z),g4.2⟩,h.n4,bx2,len,hh⟩
 |false=>
  have hr:s.sr[j]?=some (some r):=hr;have g5:s.ts.length=(s.sr.set j (some {r with ks:=ks})).length:=by rw[List.length_set];exact g4.2
  have g4:=np g4.1 (λ_ z=>nomatch z);have len:=h.len;rw[<-List.length_set (as:=s.sr) (i:=j) (a:=some {r with ks:=ks})] at len;exact⟨⟨dx,np h1 (λ_ z=>nomatch z)⟩,⟨dx1,vs1,np f1 (λ_ z=>nomatch z),np f2 (λ_ z=>nomatch z),QN hl f3 (λq hq e=>m3 q.hd (XE.mpr ⟨q,hq,rfl⟩) r.hd (XE.mpr ⟨r,List.mem_of_getElem? hr,rfl⟩) e),np f4.1 (λ_ z=>nomatch z),f4.2⟩,⟨dx2,vs2,np g1 (λ_ z=>nomatch z),np g2 (λ_ z=>nomatch z),SH hl g3 hr (λi q hi hq=>dM m2 hr hq hi),g4,g5⟩,h.n4,bx2,len,h.hh⟩
theorem MZ {s:St} {f:Bool} {j:Nat} {a b:Option Sh}:(s.put f j a).put f j b=s.put f j b:=by
 cases f with
 |true=>show St.mk ((s.fr.set j a).set j b) s.sr s.h s.go s.ga s.cb s.tf s.ts=St.mk (s.fr.set j b) s.sr s.h s.go s.ga s.cb s.tf s.ts;rw[List.set_set]
 |false=>show St.mk s.fr ((s.sr.set j a).set j b) s.h s.go s.ga s.cb s.tf s.ts=St.mk s.fr (s.sr.set j b) s.h s.go s.ga s.cb s.tf s.ts;rw[List.set_set]
theorem Tw.put {s:St} {f:Bool} {j:Nat} {r r':Sh} (h:Tw s) (hr:(s.rw f)[j]?=some (some r)):Tw (s.put f j (some r')):=by
 cases f with
 |true=>exact⟨h.there,h.back,λa b hab=>by
  show ∃q,(s.fr.set j (some r'))[a]?=some (some q);obtain⟨q,hq⟩:=h.full a b hab;rw[List.getElem?_set]
  split
  ·rename_i e;subst e;rw[if_pos (List.getElem?_eq_some_iff.mp hq).1];exact⟨_,rfl⟩
  ·exact⟨q,hq⟩,h.bare⟩
 |false=>exact⟨h.there,h.back,h.full,λa b hab=>by
  show (s.sr.set j (some r'))[b]?=some none;have hb:=h.bare a b hab;rw[List.getElem?_set,if_neg (λe=>?_)]
  ·exact hb
  ·subst e;have hr:s.sr[j]?=some (some r):=hr;rw[hb] at hr;cases hr⟩
noncomputable def als (rows:List (Option Sh)):List Sh:=rows.filterMap id
theorem GD {a b:List (Option Sh)}:als (a++b)=als a++als b:=by unfold als;rw[List.filterMap_append]
theorem yQ {rows:List (Option Sh)} {r:Sh}:r∈als rows↔some r∈rows:=by
 unfold als;rw[List.mem_filterMap];exact⟨λ⟨_,h,e⟩=>by rw[<-show _=some r from e];exact h,λh=>⟨_,h,rfl⟩⟩
theorem yJ:∀{rows:List (Option Sh)} {j:Nat} {r:Sh},rows[j]?=some none->(als (rows.set j (some r))).Perm (r::als rows):=by
 intro rows
 induction rows with
 |nil=>intro j r h;simp at h
 |cons x l ih=>
  intro j r h;cases j with
  |zero=>
   simp at h;subst h;exact List.Perm.refl _
  |succ j=>
   have:=ih (j:=j) (r:=r) (by simpa using h);cases x with
   |none=>exact this
   |some y=>exact (List.Perm.cons y this).trans (List.Perm.swap ..)
theorem zJ {rows:List (Option Sh)} {j:Nat} {q:Sh} (h:rows[j]?=some (some q)):(als rows).Perm (q::als (rows.set j none)):=by
 obtain⟨h1,h2⟩:=List.getElem?_eq_some_iff.mp h;have:=yJ (rows:=rows.set j none) (j:=j) (r:=q) (by rw[List.getElem?_set_self h1]);rw[List.set_set,<-h2,List.set_getElem_self] at this;exact this
theorem NZ {fr sr:List (Option Sh)} {i j:Nat} {q c:Sh} (hq:fr[i]?=some (some q)) (hc:sr[j]?=some (some c)):(als (fr.set i (some c)++sr.set j (some q))).Perm (als (fr++sr)):=by
 rw[GD,GD];have a1:=yJ (rows:=fr.set i none) (j:=i) (r:=c) (List.getElem?_set_self (List.getElem?_eq_some_iff.mp hq).1);have a2:=yJ (rows:=sr.set j none) (j:=j) (r:=q) (List.getElem?_set_self (List.getElem?_eq_some_iff.mp hc).1);rw[List.set_set] at a1 a2;refine (a1.append a2).trans (List.Perm.trans ?_ ((zJ hq).append (zJ hc)).symm);exact (List.Perm.cons _ List.perm_middle).trans ((List.Perm.swap ..).trans (List.Perm.cons _ List.perm_middle.symm))
theorem OZ {fr sr:List (Option Sh)} {i j:Nat} {c:Sh} (hi:fr[i]?=some none) (hc:sr[j]?=some (some c)):(als (fr.set i (some c)++sr.set j none)).Perm (als (fr++sr)):=by
 rw[GD,GD];refine ((yJ hi).append_right _).trans (List.Perm.trans ?_ ((zJ hc).append_left _).symm);exact List.perm_middle.symm
noncomputable def JA (s:St):List Sh:=als (s.fr++s.sr)
noncomputable def Bx (s:St):Prop:=((JA s).map Sh.bx).Nodup
theorem jD {s:St} {r:Sh}:r∈JA s↔some r∈s.fr\/some r∈s.sr:=by unfold JA;rw[yQ,List.mem_append]
theorem gD.als {s s1:St} {c:Option Nat} {ms:List Bool} {i:Nat} {ps:List Int} {out:Option (Nat×Sh)} (h:gD s c ms s1 i ps out) (hn:∀j q,out=some (j,q)->s.sr[j]?=some none):(JA s1).Perm (JA s):=by
 rcases h with ⟨h1,rfl,_,rfl⟩|⟨h1,q,j,hsw,hq,hsf,hj,rfl,rfl⟩
 ·exact List.Perm.refl _
 ·obtain⟨e1,e2,_⟩:=eG (s:={s with h:=(i+1) % s.fr.length}) (i:=i) (j:=j) (r:=q);unfold JA;rw[e1,e2,GD,GD];refine ((List.Perm.refl _).append (yJ (hn j q rfl))).trans ?_;exact List.perm_middle.trans ((zJ hq).symm.append_right _)
theorem gD.alsF {s s1:St} {ms:List Bool} {i:Nat} {ps:List Int} {out:Option (Nat×Sh)} {r:Sh} (h:gD s none ms s1 i ps out) (hT:Tw s):(JA {s1 with fr:=s1.fr.set i (some r)}).Perm (r::JA s):=by
 obtain⟨f1,_⟩:=h.facts hT;have f2:=h.als λj q e=>by
  rcases h with ⟨_,_,_,rfl⟩|⟨_,q2,j2,_,_,hsf,_,_,rfl⟩
  ·cases e
  ·cases e;rcases ZL hT hsf with h|⟨h,_⟩
   ·exact h
   ·cases h
 refine List.Perm.trans ?_ (List.Perm.cons r f2);unfold JA;show (Pf.als (s1.fr.set i (some r)++s1.sr)).Perm _;rw[GD,GD];exact (yJ f1).append_right _
theorem gD.alsB {s s1:St} {ms:List Bool} {i j:Nat} {ps:List Int} {out:Option (Nat×Sh)} {c:Sh} (h:gD s (some j) ms s1 i ps out) (hT:Tw s) (hc:s.sr[j]?=some (some c)):(JA (gB s1 i j c out)).Perm (JA s):=by
 obtain⟨b1,b2,_⟩:=wJ (s1:=s1) (i:=i) (j:=j) (c:=c) (out:=out);obtain⟨f1,_⟩:=h.facts hT;rcases h.slot hT hc with ⟨h1,q,h2,h3,h4⟩|⟨h1,h2,h3⟩
 ·rw[if_pos h1] at b2;unfold JA;rw[b1,b2,h3,h4,List.set_set];exact NZ h2 hc
 ·rw[if_neg h1] at b2;unfold JA;rw[b1,b2];exact (OZ f1 h2).trans (h.als h3)
theorem fM {s:St} {i j:Nat} (h:s.tf[i]?=some (some j)):untie s i=(s.tie true i none).tie false j none:=by unfold untie;rw[h]
theorem AJ {s:St} {i:Nat} (h:∀j,s.tf[i]?≠some (some j)):untie s i=s:=by
 unfold untie
 split
 ·rename_i j e;exact absurd e (h j)
 ·rfl
theorem Tw.untie {s:St} {i:Nat} (h:Tw s):Tw (Pf.untie s i):=by
 cases e:s.tf[i]? with
 |none=>rw[AJ (λj z=>by rw[e] at z;cases z)];exact h
 |some o=>
  cases o with
  |none=>rw[AJ (λj z=>by rw[e] at z;cases z)];exact h
  |some j=>
   have hj:=h.there i j e;rw[fM e];refine⟨λa b hab=>?_,λa b hab=>?_,λa b hab=>?_,λa b hab=>?_⟩
   ·have hab:(s.tf.set i none)[a]?=some (some b):=hab;show (s.ts.set j none)[b]?=some (some a);obtain⟨z1,z2⟩:=nE.mp hab;have:=h.there a b z1;refine nE.mpr ⟨this,λeb=>z2 ?_⟩;rw[eb,hj] at this;exact (Option.some.inj (Option.some.inj this)).symm
   ·have hab:(s.ts.set j none)[b]?=some (some a):=hab;show (s.tf.set i none)[a]?=some (some b);obtain⟨z1,z2⟩:=nE.mp hab;have:=h.back a b z1;refine nE.mpr ⟨this,λea=>z2 ?_⟩;rw[ea,e] at this;exact (Option.some.inj (Option.some.inj this)).symm
   ·exact h.full a b (nE.mp (show (s.tf.set i none)[a]?=some (some b) from hab)).1
   ·exact h.bare a b (nE.mp (show (s.ts.set j none)[b]?=some (some a) from hab)).1
theorem Ap.untie {s:St} {i:Nat} (h:Ap s):Ap (Pf.untie s i):=by unfold Ap;rw[YE.1,YE.2.1];exact h
theorem Bx.untie {s:St} {i:Nat} (h:Bx s):Bx (Pf.untie s i):=by unfold Bx JA;rw[YE.1,YE.2.1];exact h
theorem zQ {rows:List (Option Sh)} {i:Nat} {r r':Sh} (h:rows[i]?=some (some r)):(als (rows.set i (some r'))).Perm (r'::als (rows.set i none)):=by
 have:=yJ (rows:=rows.set i none) (j:=i) (r:=r') (List.getElem?_set_self (List.getElem?_eq_some_iff.mp h).1);rw[List.set_set] at this;exact this
theorem BJ {s:St} {f:Bool} {i:Nat} {r r':Sh} (h:Bx s) (hr:(s.rw f)[i]?=some (some r)) (e:r'.bx=r.bx):Bx (s.put f i (some r')):=by
 have go:∀{rows:List (Option Sh)},rows[i]?=some (some r)->((als (rows.set i (some r'))).map Sh.bx).Perm ((als rows).map Sh.bx):=λhr=>by
  refine ((zQ hr).map Sh.bx).trans (List.Perm.trans ?_ ((zJ hr).map Sh.bx).symm);rw[List.map_cons,List.map_cons,e]
 unfold Bx JA at *;rw[GD,List.map_append] at h;cases f with
 |true=>
  show ((als (s.fr.set i (some r')++s.sr)).map Sh.bx).Nodup;rw[GD,List.map_append];exact ((go hr).append_right _).nodup_iff.mpr h
 |false=>
  show ((als (s.fr++s.sr.set i (some r'))).map Sh.bx).Nodup;rw[GD,List.map_append];exact ((go hr).append_left _).nodup_iff.mpr h
noncomputable def AB (s:St) (f:Bool) (j:Nat):St:=if f=true then untie (s.put true j none) j else s.put false j none
noncomputable def Kg (z:Ss) (d:Addr) (H H':Hp):Prop:=∀c o,H c=some o->c≠z.p->c∉z.four->c≠d->H' c=some o
theorem zW {s:St} {f:Bool} {j:Nat} (h:Ap s):Ap (AB s f j):=by
 cases f with
 |true=>exact (yW (f:=true) h).untie
 |false=>exact yW (f:=false) h
theorem Tw.empt {s:St} {f:Bool} {j:Nat} {r:Sh} (h:Tw s) (hr:(s.rw f)[j]?=some (some r)):Tw (AB s f j):=by
 cases f with
 |true=>
  show Tw (Pf.untie (s.put true j none) j);have go:∀t u:List (Option Nat),(∀a b:Nat,t[a]?=some (some b)->s.tf[a]?=some (some b)/\a≠j)->(∀a b:Nat,u[b]?=some (some a)->s.ts[b]?=some (some a))->(∀a b:Nat,t[a]?=some (some b)->u[b]?=some (some a))->(∀a b:Nat,u[b]?=some (some a)->t[a]?=some (some b))->Tw {s with fr:=s.fr.set j none,tf:=t,ts:=u}:=λt u h1 h2 h3 h4=>⟨h3,h4,λa b hab=>by
   obtain⟨x1,x2⟩:=h1 a b hab;show ∃q,(s.fr.set j none)[a]?=some (some q);rw[List.getElem?_set,if_neg (Ne.symm x2)];exact h.full a b x1,λa b hab=>h.bare a b (h2 a b hab)⟩
  cases e:s.tf[j]? with
  |none=>
   rw[AJ (λk z=>by have z:s.tf[j]?=some (some k):=z;rw[e] at z;cases z)];exact go s.tf s.ts (λa b x=>⟨x,λz=>by rw[z,e] at x;cases x⟩) (λ_ _ x=>x) h.there h.back
  |some o=>
   cases o with
   |none=>
    rw[AJ (λk z=>by have z:s.tf[j]?=some (some k):=z;rw[e] at z;cases z)];exact go s.tf s.ts (λa b x=>⟨x,λz=>by rw[z,e] at x;cases x⟩) (λ_ _ x=>x) h.there h.back
   |some k=>
    rw[fM (show (s.put true j none).tf[j]?=some (some k) from e)];have hk:=h.there j k e;refine go (s.tf.set j none) (s.ts.set k none) (λa b x=>nE.mp x) (λa b x=>(nE.mp x).1) (λa b x=>?_) (λa b x=>?_)
    ·obtain⟨x1,x2⟩:=nE.mp x;have y:=h.there a b x1;refine nE.mpr ⟨y,λz=>x2 ?_⟩;rw[z,hk] at y;exact (Option.some.inj (Option.some.inj y)).symm
    ·obtain⟨x1,x2⟩:=nE.mp x;have y:=h.back a b x1;refine nE.mpr ⟨y,λz=>x2 ?_⟩;rw[z,e] at y;exact (Option.some.inj (Option.some.inj y)).symm
 |false=>
  refine⟨h.there,h.back,h.full,λa b hab=>?_⟩;have hb:=h.bare a b hab;show (s.sr.set j none)[b]?=some none;rw[List.getElem?_set]
  split
  ·rename_i e;subst e;rw[if_pos (List.getElem?_eq_some_iff.mp hb).1]
  ·exact hb
noncomputable def gM (C P S:Addr):Sp:=λvs H Q _=>∃(z:Ss) (s:St) (t:Addr) (f:Bool) (j:Nat),vs=[.ref z.p,.ref t]/\lA C P S H z s/\H t=some (.tup [.str (mD f),.int j])/\j < (s.rw f).length/\(∀k,s.tf[j]?=some (some k)->k < s.sr.length)/\∀H',lA C P S H' z (AB s f j)->Ks z H H'->Q .non H'
theorem AQ (T:MB K mg A):FA P w K mg base A.Aa "make_empty" 2 ["self","spot"] [] (gM A.Aa A.Ad A.Ac):=by
 have Ay:=@qW P w K mg base A T;refine T.Br.have yZ (λvs H Q E z=>?_) ?_
 ·obtain⟨z,s,t,f,j,rfl,_⟩:=z;rfl
 ·intro f cdv A' outer s H vs Q E hr z;obtain⟨z,s,t,f,j,rfl,hS,ht,hj,htw,q⟩:=z;obtain⟨dx,h1⟩:=hS.me;refine⟨_,(BA (GB (qB vE (yA oC (aA 1) rA (λ_ _=>rfl)) JD (gA _)) (aB (tD lB (sD (LA (LA (aA 0) rfl) rfl) (yA oC (aA 1) rA (λ_ _=>rfl)) uD))
   (BA (aD (QD (aA 0) T.Ab Ay (hr.mono (by decide)) ZA (dA (yA oC (aA 1) rA (λ_ _=>rfl)) nA))))) (BA (tD lB (sD (LA (LA (aA 0) rfl) rfl) (yA oC (aA 1) rA (λ_ _=>rfl)) uD))))),?_⟩
  rfl';simp only[h1];rfl';obtain⟨dx1,vs1,f1,f2,f3,f4⟩:=id hS.fr;obtain⟨dx2,vs2,g1,g2,g3,g4⟩:=id hS.sl;have l1:=Paired.length f3;have l2:=Paired.length g3;refine⟨_,cB.of ht,_,rfl,rfl,?_⟩;cases f with
  |true=>
   rw[if_pos (show V.str (mD true)=V.str "frame" from rfl)];have hj:j < s.fr.length:=hj;have hS2:=hS.set (f:=true) (j:=j) (r:=none) f2 rfl (λq e=>nomatch e);obtain⟨dx9,h9⟩:=hS2.me;have ht2:upd H z.ly (.lst (vs1.set j .non)) t=some (.tup [.str (mD true),.int (j:Int)]):=by rw[oA (bC ht f2 (λz=>nomatch z))];exact ht
   refine⟨T.Ab,T.Af,_,wD,z.fp,rfl,_,dx1,_,f1,T.Ae,T.Ag,_,lD,_,cB.of ht,_,rfl,z.ly,rfl,vs1,j,rfl,f2,j,pD (by rw[l1];exact hj),dx9,_,h9,EC ∅,_,cB.of ht2,_,rfl,z,_,j,rfl,hS2,by show j < (s.fr.set j none).length;rw[List.length_set];exact hj,htw,λH' a1 a2 a3=>q _ a1 ((RH (f:=true) (Ks.of iB)).trans a2)⟩
  |false=>
   rw[if_neg ∅];have hj:j < s.sr.length:=hj;have hS2:=hS.set (f:=false) (j:=j) (r:=none) g2 rfl (λq e=>nomatch e);exact⟨T.Ab,T.Ah,_,YD,z.sq,rfl,_,dx2,_,g1,T.Ae,T.Ag,_,lD,_,cB.of ht,_,rfl,z.ls,rfl,vs2,j,rfl,g2,j,pD (by rw[l2];exact hj),q _ hS2 (RH (f:=false) (Ks.of iB))⟩
theorem AW {kvs:List (List Key×V)} {k:List Key} {v:V} (h:xB kvs k=none):YB kvs k v=kvs++[(k,v)]:=by
 unfold YB;rw[xO,h]
 rfl
theorem CJ {ks:List (List Key)} {k:List Key} (h:k∉ks):xB (RC ks) k=none:=by
 induction ks with
 |nil=>rfl
 |cons x r ih=>
  show xB ((x,V.bl true)::RC r) k=_;rw[SM (λe=>h (by rw[<-e];exact List.mem_cons_self ..))];exact ih λz=>h (List.mem_cons_of_mem _ z)
noncomputable def PZ (C P S:Addr):Sp:=λvs H Q _=>∃(z:Ss) (s:St) (t h:Addr) (f:Bool) (j:Nat) (r:Sh) (k:List Key),vs=[.ref z.p,.ref t,.ref h]/\lA C P S H z s/\Ap s/\H t=some (.tup [.str (mD f),.int j])/\(s.rw f)[j]?=some (some r)/\H h=some (.tup (k.map kV))/\k∉r.ks/\r.ks.length<=2000/\
 ∀H',lA C P S H' z (s.put f j (some {r with ks:=r.ks++[k]}))->Ap (s.put f j (some {r with ks:=r.ks++[k]}))->Kg z r.hd H H'->(∀c,H' c=none->H c=none)->Q .non H'
theorem BW (T:MB K mg A):FA P w K mg base A.Aa "hold" 2 ["self","spot","holder"] [] (PZ A.Aa A.Ad A.Ac):=by
 have Am:=@JG P w K mg base A T;refine T.D7.have SV (λvs H Q E z=>?_) ?_
 ·obtain⟨z,s,t,h,f,j,r,k,rfl,_⟩:=z;rfl
 ·intro f cdv A' outer s H vs Q E hr z;obtain⟨z,s,t,h,f,j,r,k,rfl,hS,hA,ht,hrj,hh,hk,hl1,q⟩:=z;obtain⟨dx,h1⟩:=hS.me;refine⟨_,(aB (mB (i:=3) SV.nd rfl (Or.inl rfl) (QD (aA 0) T.Ab Am (hr.mono (by decide)) ZA (dA (aA 1) nA)))
   (BA (QX (BO hr) (LA (aA 3) rfl) (aA 2) kG rfl))),?_⟩
  unfold PN gH;rfl';simp only[h1];rfl';refine⟨EC ∅,z,rfl,s,hS,f,j,ht,_,hrj,λv hv=>?_⟩;obtain⟨rfl,⟨dx2,g1⟩,g2,g3⟩:=hv;have hS2:=hS.ks (ks:=r.ks++[k]) hA hrj g3;have hz:=PySem.sizeLine_eq;have ep:YB (RC r.ks) k (.bl true)=RC (r.ks++[k]):=by
   rw[AW (CJ hk)];unfold RC;rw[List.map_append]
   rfl
  refine⟨r.sh,rfl,_,dx2,_,g1,T.An,T.Av,_,lQ,r.hd,rfl,_,.inr ⟨RC r.ks,k,h,g3,rfl,hh,by unfold RC;rw[List.length_map];omega,rfl⟩,?_⟩;rw[ep];refine q _ hS2 (xQ (r':={r with ks:=r.ks++[k]}) hA hrj rfl) (λc o hc _ _ hn=>by rw[oA hn];exact hc) λc hc=>?_;by_cases e:c=r.hd
  ·rw[e,OA] at hc;cases hc
  ·rw[oA e] at hc;exact hc
noncomputable def CW (C P S:Addr):Sp:=λvs H Q _=>∃(z:Ss) (s:St) (t:Addr) (f:Bool) (j:Nat) (r:Option Sh),vs=[.ref z.p,.ref t]/\lA C P S H z s/\H t=some (.tup [.str (mD f),.int j])/\(s.rw f)[j]?=some r/\(r=none->Q .non H)/\∀q,r=some q->∀l,H l=none->Q (.ref l) (upd H l (.lst (q.b.map V.int)))
theorem iM (T:MB K mg A):FA P w K mg base A.Aa "sheet_at" 2 ["self","spot"] [] (CW A.Aa A.Ad A.Ac):=by
 have Am:=@JG P w K mg base A T;refine T.Cp.have UV (λvs H Q E z=>?_) ?_
 ·obtain⟨z,s,t,f,j,r,rfl,_⟩:=z;rfl
 ·intro f cdv A' outer s H vs Q E hr z;obtain⟨z,s,t,f,j,r,rfl,hS,ht,hrj,q1,q2⟩:=z;obtain⟨dx,h1⟩:=hS.me;refine⟨_,(aB (mB (i:=2) UV.nd rfl (Or.inl rfl) (QD (aA 0) T.Ab Am (hr.mono (by decide)) ZA (dA (aA 1) nA)))
   (BA (zB (LM (qB LD (aA 2) lB (gA _)) lB (cK fL rfl T.Bd PyProof.Rows.boot_list (dA (LA (aA 2) rfl) nA)))))),?_⟩
  unfold PN;rfl';simp only[h1];rfl';refine⟨EC ∅,z,rfl,s,hS,f,j,ht,_,hrj,λv hv=>?_⟩;cases r with
  |none=>
   obtain rfl:v=.non:=hv;rw[if_pos rfl];exact q1 rfl
  |some r=>
   obtain⟨rfl,⟨dx2,g1⟩,g2,g3⟩:=hv;rw[if_neg (λz=>nomatch z)];exact⟨r.sh,rfl,_,dx2,_,g1,T.An,T.Au,_,EN,r.bx,rfl,_,.inl (kA.of g2),q2 r rfl⟩
noncomputable def jM (C P S:Addr):Sp:=λvs H Q _=>∃(z:Ss) (s:St) (t:Addr) (f:Bool) (j:Nat) (r:Option Sh),vs=[.ref z.p,.ref t]/\lA C P S H z s/\H t=some (.tup [.str (mD f),.int j])/\(s.rw f)[j]?=some r/\(∀q,r=some q->IE q)/\∀l H',H l=none->iA H H'->FD H' l (match r with|none=>[]|some q=>yB q.ks)->Q (.ref l) H'
theorem BQ (T:MB K mg A):FA P w K mg base A.Aa "holders_of" 2 ["self","spot"] [] (jM A.Aa A.Ad A.Ac):=by
 have Am:=@JG P w K mg base A T;have Ak:=@IN P w K mg base A T;refine T.Bp.have TV (λvs H Q E z=>?_) ?_
 ·obtain⟨z,s,t,f,j,r,rfl,_⟩:=z;rfl
 ·intro f cdv A' outer s H vs Q E hr z;obtain⟨z,s,t,f,j,r,rfl,hS,ht,hrj,hok,q⟩:=z;obtain⟨dx,h1⟩:=hS.me;refine⟨_,(aB (mB (i:=2) TV.nd rfl (Or.inl rfl) (QD (aA 0) T.Ab Am (hr.mono (by decide)) ZA (dA (aA 1) nA)))
   (BA (zB (LM (qB LD (aA 2) lB (gA _)) (UC nA) (vD (aA 2) T.An Ak (hr.mono (by decide)) ZA))))),?_⟩
  unfold PN HN;rfl';simp only[h1];rfl';refine⟨EC ∅,z,rfl,s,hS,f,j,ht,_,hrj,λv hv=>?_⟩;cases r with
  |none=>
   obtain rfl:v=.non:=hv;rw[if_pos rfl];exact λl hl=>q l _ hl (HB iB hl) ⟨[],OA,.nil⟩
  |some r=>
   obtain⟨rfl,⟨dx2,g1⟩,g2,g3⟩:=id hv;rw[if_neg (λz=>nomatch z)];exact⟨r.sh,rfl,dx2,_,g1,KH ∅,r,hv,hok r rfl,q⟩
noncomputable abbrev Tr:=List Int×List (List Key)×Option Nat
noncomputable def RN:Option Sh->Option Nat->Option Tr
 |none,_=>none
 |some r,o=>some (r.b,yB r.ks,o)
noncomputable def UB (fr:List (Option Sh)) (i:Nat):List Int:=match fr[i]? with
 |some (some r)=>r.b
 |_=>[]
noncomputable def kM (fr:List (Option Sh)):Option Sh->Option Nat->Option Tr
 |some r,_=>some (r.b,yB r.ks,none)
 |none,none=>none
 |none,some i=>some (UB fr i,[],some i)
noncomputable def tF (s:St):List (Option Tr):=List.zipWith RN s.fr s.tf
noncomputable def tS (s:St):List (Option Tr):=List.zipWith (kM s.fr) s.sr s.ts
noncomputable def pE (H:Hp) (xs:List Addr) (v:V):Option Tr->Prop
 |none=>v=.non
 |some (b,ks,o)=>∃t bl hl,v=.ref t/\H t=some (.tup [.ref bl,.ref hl,oV o])/\H bl=some (.lst (b.map V.int))/\FD H hl ks/\bl∉xs/\hl∉xs
theorem pE.keep {H H':Hp} {xs:List Addr} (hx:∀x∈xs,∃us,H x=some (.lst us)) (k:∀c o,H c=some o->c∉xs->(∀kvs,o≠.dT kvs)->H' c=some o) {v:V}:∀{r:Option Tr},pE H xs v r->pE H' xs v r
 |none,h=>h
 |some (_,_,_),⟨t,bl,hl,e,h1,h2,⟨us,h3,h4⟩,n1,n2⟩=>by
  have nt:∀{c us},H c=some (.tup us)->c∉xs:=λ{c us} hc z=>by
   obtain⟨vs,e⟩:=hx c z;rw[hc] at e;cases e
  exact⟨t,bl,hl,e,k _ _ h1 (nt h1) (λ_ z=>nomatch z),k _ _ h2 n1 (λ_ z=>nomatch z),⟨us,k _ _ h3 n2 (λ_ z=>nomatch z),Paired.mapP h4 λ_ _ ⟨a,e,q⟩=>⟨a,e,k _ _ q (nt q) (λ_ z=>nomatch z)⟩⟩,n1,n2⟩
noncomputable def CQ (k:List Key):Dv:=.seq true (k.map λx=>.leaf (kV x))
noncomputable def lM (ks:List (List Key)):Dv:=.seq false (ks.map CQ)
noncomputable def SN (bs:List Int):Dv:=.seq false (bs.map λx=>.leaf (.int x))
noncomputable def wK:Option Nat->Dv
 |none=>.leaf .non
 |some j=>.leaf (.int (j:Int))
theorem mM {H:Hp} {o:Option Nat}:EB H (wK o) (oV o):=by
 cases o with
 |none=>unfold wK EB;exact⟨rfl,rfl⟩
 |some j=>unfold wK EB;exact⟨rfl,rfl⟩
noncomputable def xF:Option Tr->Dv
 |none=>.leaf .non
 |some (b,ks,o)=>.seq true [SN b,lM ks,wK o]
theorem DW {H:Hp}:∀{bs:List Int},EA H (bs.map λx=>.leaf (.int x)) (bs.map V.int)
 |[]=>by unfold EA;rfl
 |b::bs=>by
  rw[List.map_cons,List.map_cons];unfold EA;exact⟨_,_,rfl,by unfold EB;exact⟨rfl,rfl⟩,DW⟩
theorem EW {H:Hp}:∀{k:List Key},EA H (k.map λx=>.leaf (kV x)) (k.map kV)
 |[]=>by unfold EA;rfl
 |b::bs=>by
  rw[List.map_cons,List.map_cons];unfold EA;exact⟨_,_,rfl,by unfold EB;exact⟨rfl,by cases b<;>rfl⟩,EW⟩
theorem QZ {H:Hp} {l:Addr} {ks:List (List Key)} (h:FD H l ks) (hl:ks.length<=640) (hk:∀k∈ks,k.length<=640):EB H (lM ks) (.ref l):=by
 obtain⟨us,h1,h2⟩:=h;unfold lM EB;refine⟨l,us,rfl,h1,by rw[List.length_map];omega,?_⟩;clear h1 hl
 induction h2 with
 |nil=>rw[List.map_nil];unfold EA;rfl
 |@cons v k _ _ a t ih=>
  rw[List.map_cons];unfold EA;obtain⟨b,rfl,hb⟩:=a;refine⟨_,_,rfl,?_,ih λk hk'=>hk k (List.mem_cons_of_mem _ hk')⟩;unfold CQ EB;exact⟨b,_,rfl,hb,by rw[List.length_map];have:=hk k (List.mem_cons_self ..);omega,EW⟩
theorem nM {H:Hp} {l:Addr} {bs:List Int} (h:H l=some (.lst (bs.map V.int))) (hl:bs.length<=640):EB H (SN bs) (.ref l):=by
 unfold SN EB;exact⟨l,_,rfl,h,by rw[List.length_map];omega,DW⟩
noncomputable def RZ (r:Sh):Prop:=r.b.length<=640/\(yB r.ks).length<=640/\∀k∈yB r.ks,k.length<=640
noncomputable def SI (r:Tr):Prop:=r.1.length<=640/\r.2.1.length<=640/\∀k∈r.2.1,k.length<=640
theorem pE.lks {H:Hp} {xs:List Addr} {v:V}:∀{r:Option Tr},pE H xs v r->(∀s,r=some s->SI s)->EB H (xF r) v
 |none,h,_=>by unfold xF EB;exact⟨h,rfl⟩
 |some (b,ks,o),⟨t,bl,hl,e,h1,h2,h3,n1,n2⟩,hb=>by
  obtain⟨b1,b2,b3⟩:=hb _ rfl;unfold xF EB;refine⟨t,_,e,h1,by show (3:Nat) < 16777216;decide,?_⟩;unfold EA;refine⟨_,_,rfl,nM h2 b1,?_⟩;unfold EA;refine⟨_,_,rfl,QZ h3 b2 b3,?_⟩;unfold EA;exact⟨_,_,rfl,mM,by unfold EA;rfl⟩
theorem DQ {H:Hp} {xs:List Addr} {vs:List V} {rows:List (Option Tr)} (h:Paired (pE H xs) vs rows) (ok:∀r,some r∈rows->SI r):EA H (rows.map xF) vs:=by
 induction h with
 |nil=>rw[List.map_nil];unfold EA;rfl
 |cons r t ih=>
  rw[List.map_cons];unfold EA;exact⟨_,_,rfl,r.lks (λs e=>ok s (by rw[e];exact List.mem_cons_self ..)),ih λr hr=>ok r (List.mem_cons_of_mem _ hr)⟩
noncomputable def TH (rows:List (Option Sh)):Prop:=∀r,some r∈rows->IE r/\RZ r
theorem EQ {α β γ:Type} {f:α->β->γ}:∀{as:List α} {bs:List β} {c:γ},c∈List.zipWith f as bs->∃a b,a∈as/\b∈bs/\f a b=c
 |[],_,c,h=>by simp at h
 |_::_,[],c,h=>by simp at h
 |a::as,b::bs,c,h=>by
  rw[List.zipWith_cons_cons] at h;rcases List.mem_cons.mp h with e|h
  ·exact⟨a,b,List.mem_cons_self .., List.mem_cons_self .., e.symm⟩
  ·obtain⟨x,y,h1,h2,h3⟩:=EQ h;exact⟨x,y,List.mem_cons_of_mem _ h1,List.mem_cons_of_mem _ h2,h3⟩
theorem UH {s:St} (ok:TH s.fr) {r:Tr} (h:some r∈tF s):SI r:=by
 unfold tF at h;obtain⟨a,b,h1,_,h3⟩:=EQ h;cases a with
 |none=>cases h3
 |some q=>cases h3;exact (ok q h1).2
theorem VH {s:St} (ok0:TH s.fr) (ok:TH s.sr) {r:Tr} (h:some r∈tS s):SI r:=by
 unfold tS at h;obtain⟨a,b,h1,_,h3⟩:=EQ h;cases a with
 |some q=>cases h3;exact (ok q h1).2
 |none=>
  cases b with
  |none=>cases h3
  |some i=>
   cases h3;refine⟨?_,Nat.zero_le _,λk hk=>by cases hk⟩;show (UB s.fr i).length<=640;unfold UB
   split
   ·rename_i q e;exact (ok0 q (List.mem_of_getElem? e)).2.1
   ·exact Nat.zero_le _
noncomputable def oM (C P S:Addr):Sp:=λvs H Q _=>∃(z:Ss) (s:St),vs=[.ref z.p]/\lA C P S H z s/\TH s.fr/\∀H' l,iA H H'->H l=none->EB H' (.seq false ((tF s).map xF)) (.ref l)->Q (.ref l) H'
theorem FQ (T:MB K mg A):FA P w K mg base A.Aa "told_frames" 2 ["self"] [] (oM A.Aa A.Ad A.Ac):=by
 have Ak:=@IN P w K mg base A T;refine T.Bj.have AN (λvs H Q E z=>?_) ?_
 ·obtain⟨z,s,rfl,_⟩:=z;rfl
 ·intro f cdv A' outer s H vs Q E hr z;obtain⟨z,s,rfl,hS,ok,q⟩:=z;obtain⟨dx,h1⟩:=hS.me;obtain⟨dx1,us,f1,f2,f3,f4,f5⟩:=id hS.fr;have hlen:(tF s).length=s.fr.length:=by unfold tF;rw[List.length_zipWith];omega
  have hul:=Paired.length f3;refine⟨_,(aB (mB (i:=1) AN.nd rfl (Or.inl rfl) (UC nA))
   (aB (rF PassesOwn.leaving rfl (RU rfl T.Db (dA (LA (LA (aA 0) rfl) rfl) nA)) (XT (n:=2) rfl (NM (wC (i:=2) AN.nd rfl (Or.inl rfl)) (NM (wC (i:=3) AN.nd rfl (Or.inl rfl)) WT))) (BA (GB (qB LD (aA 3) lB (gA _)) (BA (aD (BF PySem.F.plainAttrs_list PySem.F.slot_list_append PySem.F.type_list_append CF (aA 1) (dA lB nA)))) (BA (aD (BF PySem.F.plainAttrs_list PySem.F.slot_list_append PySem.F.type_list_append CF (aA 1) (dA (VC (dA (cK fL rfl T.Bd PyProof.Rows.boot_list (dA (LA (aA 3) rfl) nA)) (dA (vD (aA 3) T.An Ak (hr.mono (by decide)) ZA) (dA (yA SA (LA (LA (aA 0) rfl) rfl) (aA 2) (λ_ _=>rfl)) nA)))) nA)))))))
   (BA (zB (aA 1))))),?_⟩
  unfold HN;rfl';intro tl htl;have b1:=HB (o:=.lst []) (iB (H:=H)) htl;refine⟨_,dx,_,b1 _ _ h1,T.Ab,T.Af,_,wD,z.fp,rfl,_,dx1,_,b1 _ _ f1,T.Ae,T.Ag,_,lD,z.ly,rfl,⟨_,kA.of (b1 _ _ f2)⟩,SU (xs:=us) (λi σ H'=>∃ys v2 v3,σ=[some (.ref z.p),some (.ref tl),v2,v3]/\iA H H'/\H' tl=some (.lst ys)/\Paired (pE H' [tl]) ys ((tF s).take i)) ⟨[],_,_,rfl,b1,OA,.nil⟩ (λi σ H' _ ⟨_,_,_,_,e,_⟩=>kA.of (e _ _ f2)) (λi x tt σ H' hi=>?_) (λσ H1=>?_)⟩
  ·rintro⟨ys,v2,v3,rfl,s1,hy,hP⟩ htt;obtain⟨y,hy1,hy2⟩:=jE f3 hi;have b2:=HB (o:=.tup [V.int i,x]) (iB (H:=H')) htt;have htt':upd H' tt (.tup [V.int i,x]) tt=some (.tup [V.int i,x]):=OA;have hil:i < s.fr.length:=(List.getElem?_eq_some_iff.mp hy1).1;obtain⟨o,ho⟩:∃o,s.tf[i]?=some o:=⟨_,List.getElem?_eq_getElem ⋯⟩
   have htk:(tF s).take (i+1)=(tF s).take i++[RN y o]:=by rw[List.take_add_one,show (tF s)[i]?=some (RN y o) by unfold tF;rw[List.getElem?_zipWith,hy1,ho]];rfl
   rfl';generalize upd H' tt (.tup [V.int i,x])=H2 at *;refine⟨_,cB.of htt',rfl,_,_,rfl,_,_,rfl,rfl,?_⟩;have hyl:=Paired.length hP;rw[List.length_take] at hyl;have hl64:=hS.len.1;have s2:=s1.trans b2;have hy2':=b2 _ _ hy;have hk:∀{H3 H4:Hp} {ws:List V},iA H2 H3->H4=upd H3 tl (.lst ws)->Paired (pE H4 [tl]) ys ((tF s).take i):=λ{H3 H4 ws} s3 e=>Paired.mapP hP λ_ _ q=>q.keep (xs:=[tl]) (λx hx=>⟨ys,by rw[List.mem_singleton.mp hx];exact hy⟩) (λc o hc hn _=>by rw[e,oA (λz=>hn (by simp[z]))];exact s3 _ _ (b2 _ _ hc));cases y with
   |none=>
    obtain rfl:x=.non:=hy2;rw[if_pos rfl];refine⟨.inl ⟨rfl,_,kA.of hy2'⟩,ys,hy2',⋯,ZC s2 htl,_,rfl,?_⟩;rw[htk];exact JE (hk iB rfl) rfl
   |some r=>
    obtain⟨rfl,⟨dxr,g1⟩,g2,g3⟩:=id hy2;rw[if_neg (λz=>nomatch z)];refine⟨.inl ⟨rfl,_,kA.of hy2'⟩,r.sh,rfl,_,dxr,_,s2 _ _ g1,T.An,T.Au,_,EN,r.bx,rfl,_,.inl (kA.of (s2 _ _ g2)),λbl hbl=>?_⟩;have b3:=HB (o:=.lst (r.b.map V.int)) (iB (H:=H2)) hbl;have hbl3:upd H2 bl (.lst (r.b.map V.int)) bl=some (.lst (r.b.map V.int)):=OA;generalize upd H2 bl (.lst (r.b.map V.int))=H3 at *;have s3:=s2.trans b3;refine⟨r.sh,rfl,dxr,_,s3 _ _ g1,KH ∅,r,XA.same s3 hy2,(ok r (List.mem_of_getElem? hy1)).1,λhl H4 hhl s4 a1=>?_⟩;have s5:=s3.trans s4;have hbl4:=s4 _ _ hbl3;refine⟨_,dx,_,s5 _ _ h1,T.Ab,T.Af,_,wD,z.fp,rfl,_,dx1,_,s5 _ _ f1,T.Ae,T.Ai,_,sE,z.tw,rfl,_,_,rfl,kA.of (s5 _ _ f4),oV o,xA (by rw[List.getElem?_map,ho];rfl),λnp hnp=>?_⟩;have b5:=HB (o:=.tup [V.ref bl,V.ref hl,oV o]) (iB (H:=H4)) hnp;have s24:iA H2 H4:=b3.trans s4;have htl5:=b5 _ _ (s24 _ _ hy2');refine⟨ys,htl5,⋯,ZC (s5.trans b5) htl,_,rfl,?_⟩;rw[htk];have nb:bl≠tl:=(BB hy2' hbl).symm;have nh:hl≠tl:=(BB (b3 _ _ hy2') hhl).symm;have nn:np≠tl:=(BB (s24 _ _ hy2') hnp).symm;exact JE (hk (s24.trans b5) rfl) ⟨np,bl,hl,rfl,by rw[oA nn,OA],by rw[oA nb];exact b5 _ _ hbl4,(let ⟨us9,a2,a3⟩:=a1;⟨us9,by rw[oA nh];exact b5 _ _ a2,Paired.mapP a3 λ_ _ ⟨a9,e9,q9⟩=>⟨a9,e9,by rw[oA (bC q9 (s24 _ _ hy2') (λz=>nomatch z))];exact b5 _ _ q9⟩⟩),by simpa using nb,by simpa using nh⟩
  rintro⟨ys,v2,v3,rfl,s1,hy,hP⟩;rfl';rw[hul,<-hlen,List.take_length] at hP;refine q _ tl s1 htl ?_;unfold EB;exact⟨tl,ys,rfl,hy,by rw[List.length_map,hlen];have:=hS.len.1;omega,DQ hP λr hr=>UH ok hr⟩
noncomputable def WH (C P S:Addr):Sp:=λvs H Q _=>∃(z:Ss) (s:St) (j:Nat) (r:Option Sh) (o:Option Nat),vs=[.ref z.p,.int j]/\lA C P S H z s/\Tw s/\s.sr[j]?=some r/\s.ts[j]?=some o/\(∀q,r=some q->IE q)/\∀v H',iA H H'->(∀xs:List Addr,(∀x∈xs,H x≠none)->pE H' xs v (kM s.fr r o))->Q v H'
theorem GQ (T:MB K mg A):FA P w K mg base A.Aa "told_slot" 3 ["self","slot"] [] (WH A.Aa A.Ad A.Ac):=by
 have Ak:=@IN P w K mg base A T;have C2:=@iM P w K mg base A T;refine T.B5.have IP (λvs H Q E z=>?_) ?_
 ·obtain⟨z,s,j,r,o,rfl,_⟩:=z;rfl
 ·intro f cdv A' outer s H vs Q E hr z;obtain⟨z,s,j,r,o,rfl,hS,hT,hrj,hoj,hok,q⟩:=z;obtain⟨dx,h1⟩:=hS.me;obtain⟨dx1,us,f1,f2,f3,f4,f5⟩:=id hS.sl;obtain⟨v,hv1,hv2⟩:=mF f3 hrj;have hj:=(List.getElem?_eq_some_iff.mp hrj).1;refine⟨_,(aB (mB (i:=2) IP.nd rfl (Or.inl rfl) (yA SA (LA (LA (aA 0) rfl) rfl) (aA 1) (λ_ _=>rfl)))
   (nB (mB (i:=3) IP.nd rfl (Or.inl rfl) (yA SA (LA (LA (aA 0) rfl) rfl) (aA 1) (λ_ _=>rfl)))
   (aB (GB (qB MD (aA 2) lB (gA _)) (BA (zB (VC (dA (cK fL rfl T.Bd PyProof.Rows.boot_list (dA (LA (aA 2) rfl) nA)) (dA (vD (aA 2) T.An Ak (hr.mono (by decide)) ZA) (dA lB nA)))))) XB)
   (aB (GB (qB MD (aA 3) lB (gA _)) (BA (zB (VC (dA (QD (aA 0) T.Ab C2 (hr.mono (by decide)) ZA (dA (VC (dA JD (dA (aA 3) nA))) nA)) (dA (UC nA) (dA (aA 3) nA)))))) XB)
   (BA (zB lB)))))),?_⟩
  rfl';simp only[h1];rfl';refine⟨T.Ab,T.Ah,_,YD,z.sq,rfl,_,dx1,_,f1,T.Ae,T.Ag,_,lD,z.ls,rfl,us,kA.of f2,v,xA hv1,?_⟩;refine wA (λσ H'=>σ=[some (.ref z.p),some (.int (j:Int)),some v,some (oV o)]/\H'=H) ?_ λU9 D9 hU9 hD9 σ' H'=>?_
  ·rfl';simp only[h1];rfl';exact⟨T.Ab,T.Ah,_,YD,z.sq,rfl,_,dx1,_,f1,T.Ae,T.Ai,_,sE,z.ts,rfl,_,kA.of f4,oV o,xA (by rw[List.getElem?_map,hoj];rfl),rfl⟩
  rintro⟨rfl,rfl⟩;subst hU9 hD9;cases r with
  |none=>
   obtain rfl:v=.non:=hv2;cases o with
   |none=>
    unfold oV;rfl';exact UA (UA (q _ _ iB λ_ _=>rfl))
   |some i=>
    unfold oV CW;obtain⟨r,hri⟩:=hT.full i j (hT.back i j hoj);have eb:UB s.fr i=r.b:=by unfold UB;rw[hri]
    rfl';refine UA (mE (by rw[decide_eq_false (λz=>nomatch z)];rfl) ⟨dx,_,h1,EC ∅,λp hp=>?_⟩);obtain⟨s1,k1⟩:=FB (o:=.tup [V.str "frame",V.int (i:Int)]) hp;refine⟨z,rfl,s,hS.same s1,true,i,rfl,some r,hri,(λe=>by cases e),λq2 e l hl p2 hp2 p3 hp3=>?_⟩;obtain rfl:r=q2:=Option.some.inj e;obtain⟨s2,k2⟩:=FB (o:=.lst (r.b.map V.int)) hl;obtain⟨s3,k3⟩:=FB (o:=.lst []) hp2;obtain⟨s4,k4⟩:=FB (o:=.tup [V.ref l,V.ref p2,V.int (i:Int)]) hp3;refine q _ _ (((s1.trans s2).trans s3).trans s4) λxs hx=>?_;show pE _ xs _ (some (UB s.fr i,[],some i));rw[eb];exact⟨p3,l,p2,rfl,k4,s4 _ _ (s3 _ _ k2),⟨[],s4 _ _ k3,.nil⟩,λz=>hx _ z (NB s1 hl),λz=>hx _ z (NB (s1.trans s2) hp2)⟩
  |some r=>
   obtain⟨rfl,⟨dxr,g1⟩,g2,g3⟩:=id hv2;unfold HN;rfl';refine ZB ⟨_,dxr,_,g1,T.An,T.Au,_,EN,r.bx,rfl,_,.inl (kA.of g2),λbl hbl=>?_⟩;obtain⟨s1,k1⟩:=FB (o:=.lst (r.b.map V.int)) hbl;generalize upd H' bl _=H1 at *;refine⟨dxr,_,s1 _ _ g1,KH ∅,r,XA.same s1 hv2,hok r rfl,λhl H2 hhl s2 htd t ht=>?_⟩;have s3:iA H2 (upd H2 t (.tup [V.ref bl,V.ref hl,V.non])):=HB iB ht;exact q _ _ (s1.trans (s2.trans s3)) λxs hx=>⟨t,bl,hl,rfl,OA,s3 _ _ (s2 _ _ k1),htd.same s3,λz=>hx _ z hbl,λz=>hx _ z (NB s1 hhl)⟩
noncomputable def DJ (C P S:Addr):Sp:=λvs H Q _=>∃(z:Ss) (s:St),vs=[.ref z.p]/\lA C P S H z s/\Tw s/\TH s.fr/\TH s.sr/\∀H' l,iA H H'->H l=none->EB H' (.seq false ((tS s).map xF)) (.ref l)->Q (.ref l) H'
theorem pM (T:MB K mg A):FA P w K mg base A.Aa "told_slots" 4 ["self"] [] (DJ A.Aa A.Ad A.Ac):=by
 have Cj:=@GQ P w K mg base A T;refine T.Bq.have wZ (λvs H Q E z=>?_) ?_
 ·obtain⟨z,s,rfl,_⟩:=z;rfl
 ·intro f cdv A' outer s H vs Q E hr z;obtain⟨z,s,rfl,hS,hT,ok0,ok,q⟩:=z;obtain⟨dx,h1⟩:=hS.me;obtain⟨dx1,us,f1,f2,f3,f4,f5⟩:=id hS.sl;have hlen:(tS s).length=s.sr.length:=by unfold tS;rw[List.length_zipWith];omega
  refine⟨_,(BA (zB (sF rfl (RE rfl T.Ao (dA (DB yC rfl T.Aj PySem.boot_len (dA (LA (LA (aA 0) rfl) rfl) nA)) nA)) (x:="slot") (fs:=["self"]) (ix:=[0]) rfl rfl (λ_ _ _ _ _ _=>(wC (i:=0) (show (["slot","self"]:List Str).Nodup by decide+kernel) rfl (Or.inl rfl))) (λ_ _ _ _ _ _=>nG) (λ_ _ _ _ _ _=>(QD (aA 1) T.Ab Cj (hr.mono (by decide)) lH (dA (aA 0) nA)))))),?_⟩;unfold WH;rfl';simp only[h1];rfl';have hul:=Paired.length f3;have hm:=hS.len.2;have hz:=PySem.sizeLine_eq;refine⟨T.Ab,T.Ah,_,YD,z.sq,rfl,_,dx1,_,f1,T.Ae,T.Ag,_,lD,_,.inl ⟨_,kA.of f2,rfl⟩,⋯,⋯,λD hD=>?_⟩;refine DG (λi ys σ H'=>∃v,σ=[v,some (.ref z.p)]/\iA H H'/\H' D=some (.lst ys)/\Paired (pE H' [D]) ys ((tS s).take i)) ⟨_,rfl,HB iB hD,OA,.nil⟩ (λi ys σ H' hi=>?_) (λys σ H5=>?_)
  ·rintro⟨v,rfl,s1,hD1,hP⟩;have hil:i < s.sr.length:=⋯;have hrow:s.sr[i]?=some s.sr[i]:=List.getElem?_eq_getElem hil;obtain⟨o,ho⟩:∃o,s.ts[i]?=some o:=⟨_,List.getElem?_eq_getElem ⋯⟩
   have htk:(tS s).take (i+1)=(tS s).take i++[kM s.fr s.sr[i] o]:=by rw[List.take_add_one,show (tS s)[i]?=some (kM s.fr s.sr[i] o) by unfold tS;rw[List.getElem?_zipWith,hrow,ho]];rfl
   have hyl:=Paired.length hP;rw[List.length_take] at hyl;generalize s.sr[i]=r at *;rfl';refine⟨dx,_,s1 _ _ h1,EC ∅,z,rfl,s,i,⋯,hS.same s1,hT,r,hrow,o,ho,(λq e=>(ok q (by rw[<-e];exact List.mem_of_getElem? hrow)).1),λv H2 s2 hw=>?_⟩;have hD2:=s2 _ _ hD1;refine⟨hD2,⋯,ZC (s1.trans s2) hD,?_⟩;rw[htk];have w2:=hw [D] (λx hx=>by rw[List.mem_singleton.mp hx,hD1];exact λz=>nomatch z);have kp:∀{u:V} {r:Option Tr},pE H2 [D] u r->pE (upd H2 D (.lst (ys++[v]))) [D] u r:=λh=>h.keep (xs:=[D]) (λx hx=>⟨ys,by rw[List.mem_singleton.mp hx];exact hD2⟩) (λc o hc hn _=>by rw[oA (λz=>hn (by simp[z]))];exact hc);exact JE (Paired.mapP hP λ_ _ h=>kp (h.keep (xs:=[D]) (λx hx=>⟨ys,by rw[List.mem_singleton.mp hx];exact hD1⟩) (λc o hc _ _=>s2 _ _ hc))) (kp w2)
  ·rintro⟨v,rfl,s1,hD1,hP⟩;rw[hul,Int.toNat_natCast,<-hlen,List.take_length] at hP;refine q _ D s1 hD ?_;unfold EB;exact⟨D,ys,rfl,hD1,by rw[List.length_map,hlen];omega,DQ hP λr hr=>VH ok0 ok hr⟩
noncomputable def fG (k:List Key):Bool:=decide (k.head?=some (.inr (Str.ofString "bank")))
noncomputable def VD (ks:List (List Key)):Bool:=ks.any fG
theorem SZ {CX:CXT} {P:Program} {w:World} {K:W.Frag} {mg:Str->Option Value} {base:Heap} {N:List Str} {qual:Str} {scope:Scope} {f:Addr} {cd:Value} {A:Around} {outer:List Env} {s:Shared} {H:Hp} {E:XK}:(RB CX P w K mg base N qual scope f cd A outer s H E).H₀=H:=rfl
noncomputable def EJ (C:Addr):Sp:=λvs H Q _=>∃(v:V) (r:Sh),vs=[v]/\XA C H v (some r)/\(∀k∈r.ks,eC k)/\r.ks.length<=2000/\∀H',iA H H'->Q (.bl (VD r.ks)) H'
theorem qM (T:MB K mg A):FA P w K mg base A.Ac "is_banked" 1 ["self"] [] (EJ A.Ac):=by
 refine T.Co.have pZ (λvs H Q E z=>?_) ?_
 ·obtain⟨v,r,rfl,_⟩:=z;rfl
 ·intro f cdv A' outer s H vs Q E hr z;obtain⟨v,r,rfl,⟨rfl,⟨dx,h1⟩,h2,h3⟩,htr,hl,q⟩:=z;have hz:=PySem.sizeLine_eq;refine⟨_,(BA (GY (zB (DB (tY rfl) rfl T.Gg ∅ (dA (sF rfl (IY (LA (aA 0) rfl)) (x:="holder") (fs:=[]) (ix:=[]) rfl rfl (λ_ _ _ _ _ _=>(wC (i:=0) (show (["holder"]:List Str).Nodup by decide+kernel) rfl (Or.inl rfl))) (λ_ _ _ _ _ _=>nG) (λ_ _ _ _ _ _=>(uI vE (yA (XU (K:=K) rfl) (aA 0) rA (λ_ _=>rfl)) JD (gA _)))) nA))))),?_⟩;refine⟨r.hd,?_,?_⟩
  ·intro o u;rw[SZ,h3];exact λz=>nomatch z
  unfold GE WF;rfl';refine⟨_,dx,_,h1,T.An,T.Av,_,lQ,r.hd,rfl,RC r.ks,h3,λo D hD=>?_⟩;have hk2:∀b u,H b=some u->b≠r.hd->upd H r.hd (.frz o (.dT (RC r.ks))) b=some u:=λb u h hb=>by rw[oA hb];exact h
  have ha2:upd H r.hd (.frz o (.dT (RC r.ks))) r.hd=some (.frz o (.dT (RC r.ks))):=OA;generalize upd H r.hd (.frz o (.dT (RC r.ks)))=H2 at *;have hDa:D≠r.hd:=λz=>by rw[z,ha2] at hD;cases hD
  have hD0:H D=none:=by
   cases e:H D with
   |none=>rfl
   |some u=>rw[hk2 D u e hDa] at hD;cases hD
  refine PY (λi ys σ H'=>∃v0,σ=[v0]/\(∀b u,H b=some u->b≠r.hd->H' b=some u)/\H' r.hd=some (.frz o (.dT (RC r.ks)))/\ys=((r.ks.take i).map fG).map V.bl/\H' D=some (.lst ys)) ⟨_,rfl,λb u h hb=>?_,?_,rfl,OA⟩ (λi ys σ H' _ ⟨_,_,_,e,_⟩=>e) (λi k x b ys σ H' hi hb=>?_) (λys σ H'=>?_)
  ·rw[oA (BB h hD0)];exact hk2 b u h hb
  ·rw[oA (Ne.symm hDa)];exact ha2
  ·rintro⟨v0,rfl,hk,ha,rfl,hD'⟩;obtain⟨hki,rfl⟩:r.ks[i]?=some k/\x=V.bl true:=by
    unfold RC at hi;rw[List.getElem?_map] at hi;cases e:r.ks[i]? with
    |none=>rw[e] at hi;cases hi
    |some y=>rw[e] at hi;cases hi;exact⟨rfl,rfl⟩
   obtain⟨s1,a1,b1,rfl⟩:=htr k (List.mem_of_getElem? hki);have hil:=(List.getElem?_eq_some_iff.mp hki).1;have htk:r.ks.take (i+1)=r.ks.take i++[[.inr s1,.inl a1,.inl b1]]:=by rw[List.take_add_one,hki];rfl
   rfl';refine⟨_,cB.of hb,.str s1,xA (j:=0) rfl,rfl,hD',by rw[List.length_map,List.length_map,List.length_take];omega,λb u h hb9=>?_,?_,?_⟩
   ·rw[oA (BB h hD0)];exact hk b u h hb9
   ·rw[oA (Ne.symm hDa)];exact ha
   ·have e9:decide (V.str s1=V.str "bank")=fG [.inr s1,.inl a1,.inl b1]:=by
     unfold fG;by_cases e:s1=Str.ofString "bank"
     ·subst e;exact (decide_eq_true rfl).trans (decide_eq_true rfl).symm
     ·exact (decide_eq_false (λz=>e (V.str.inj z))).trans (decide_eq_false (λz=>e (Sum.inr.inj (Option.some.inj z)))).symm
    rw[e9,htk,List.map_append,List.map_append]
    rfl
  ·rintro⟨v0,rfl,hk,ha,rfl,hD'⟩;have hkl:(RC r.ks).length=r.ks.length:=by unfold RC;rw[List.length_map]
   rw[hkl,List.take_length] at hD';refine⟨r.ks.map fG,kA.of hD',?_⟩;have hk4:iA H (upd H' r.hd (.dT (RC r.ks))):=λc u h=>by
    by_cases hc:c=r.hd
    ·rw[hc,OA,<-h3,<-h,hc]
    ·rw[oA hc];exact hk _ _ h hc
   rw[FY ha];have:=q _ hk4;unfold VD at this;rw[List.any_map];exact this
noncomputable def qD (H:Hp) (v:V) (p:Bool×Nat):Prop:=∃a,v=.ref a/\H a=some (.tup [.str (mD p.1),.int (p.2:Int)])
theorem qD.same {H H':Hp} {v:V} {p:Bool×Nat} (h:qD H v p) (s:iA H H'):qD H' v p:=let ⟨a,e,q⟩:=h;⟨a,e,s _ _ q⟩
noncomputable def spA (s:St):List (Bool×Nat):=(List.range s.fr.length).map (true,·)++(List.range s.sr.length).map (false,·)
theorem HQ {α β:Type} {R:α->β->Prop} {as cs:List α} {bs ds:List β} (h:Paired R as bs) (h2:Paired R cs ds):Paired R (as++cs) (bs++ds):=by
 induction h with
 |nil=>exact h2
 |cons r t ih=>exact .cons r ih
noncomputable def FJ (C P S:Addr):Sp:=λvs H Q _=>∃(z:Ss) (s:St),vs=[.ref z.p]/\lA C P S H z s/\∀H' l us,iA H H'->H l=none->H' l=some (.lst us)->Paired (qD H') us (spA s)->Q (.ref l) H'
theorem rM (T:MB K mg A):FA P w K mg base A.Aa "all_spots" 1 ["self"] [] (FJ A.Aa A.Ad A.Ac):=by
 refine T.B4.have WV (λvs H Q E z=>?_) ?_
 ·obtain⟨z,s,rfl,_⟩:=z;rfl
 ·intro f cdv A' outer s H vs Q E hr z;obtain⟨z,s,rfl,hS,q⟩:=z;obtain⟨dx,h1⟩:=hS.me;obtain⟨dx1,us1,f1,f2,f3,f4,f5⟩:=id hS.fr;obtain⟨dx2,us2,g1,g2,g3,g4,g5⟩:=id hS.sl;have l1:=Paired.length f3;have l2:=Paired.length g3;have h64:=hS.len;have hz:=PySem.sizeLine_eq;have rgn:∀(b:Bool) (i:Nat),(List.range (i+1)).map (λx=>(b,x))=(List.range i).map (λx=>(b,x))++[(b,i)]:=λb i=>by rw[List.range_succ,List.map_append];rfl
  refine⟨_,(aB (qL (i:=1) WV.nd rfl rfl rfl (RE rfl T.Ao (dA (DB yC rfl T.Aj PySem.boot_len (dA (LA (LA (aA 0) rfl) rfl) nA)) nA)) (x:="frame") (fs:=[]) (ix:=[]) rfl rfl (λ_ _ _ _ _ _=>(wC (i:=0) (show (["frame"]:List Str).Nodup by decide+kernel) rfl (Or.inl rfl))) (λ_ _ _ _ _ _=>nG) (λ_ _ _ _ _ _=>(VC (dA JD (dA (aA 0) nA)))))
   (BA (zB (VA vO (aA 1) (sF rfl (RE rfl T.Ao (dA (DB yC rfl T.Aj PySem.boot_len (dA (LA (LA (aA 0) rfl) rfl) nA)) nA)) (x:="slot") (fs:=[]) (ix:=[]) rfl rfl (λ_ _ _ _ _ _=>(wC (i:=0) (show (["slot"]:List Str).Nodup by decide+kernel) rfl (Or.inl rfl))) (λ_ _ _ _ _ _=>nG) (λ_ _ _ _ _ _=>(VC (dA JD (dA (aA 0) nA))))))))),?_⟩
  rfl';simp only[h1];rfl';refine⟨T.Ab,T.Af,_,wD,z.fp,rfl,_,dx1,_,f1,T.Ae,T.Ag,_,lD,_,.inl ⟨_,kA.of f2,rfl⟩,⋯,⋯,λD hD=>?_⟩;refine DG (λi ys σ H'=>∃v,σ=[v]/\iA H H'/\H' D=some (.lst ys)/\Paired (qD H') ys ((List.range i).map (true,·))) ⟨_,rfl,HB iB hD,OA,.nil⟩ (λi ys σ H' hi=>?_) (λys σ H5=>?_)
  ·rintro⟨v,rfl,s1,hD1,hP⟩;have hyl:=Paired.length hP;rw[List.length_map,List.length_range] at hyl;rfl';intro p hp;rw[Int.zero_add];obtain⟨b1,c1⟩:=FB (o:=.tup [V.str "frame",V.int (i:Int)]) hp;have hD2:=b1 _ _ hD1;generalize upd H' p _=H2 at *;have kp:∀{c o},H2 c=some o->(∀us,o≠.lst us)->upd H2 D (.lst (ys++[V.ref p])) c=some o:=λhc hn=>by rw[oA (bC hc hD2 (λe=>hn _ e))];exact hc
   refine⟨hD2,⋯,ZC (s1.trans b1) hD,?_⟩;rw[rgn];exact JE (Paired.mapP hP λ_ _ ⟨a,e,q⟩=>⟨a,e,kp (b1 _ _ q) (λ_ z=>nomatch z)⟩) ⟨p,rfl,kp c1 (λ_ z=>nomatch z)⟩
  rintro⟨v,rfl,s1,hD1,hP⟩;rw[l1,Int.toNat_natCast] at hP;refine⟨_,dx,_,s1 _ _ h1,T.Ab,T.Ah,_,YD,z.sq,rfl,_,dx2,_,s1 _ _ g1,T.Ae,T.Ag,_,lD,_,.inl ⟨_,kA.of (s1 _ _ g2),rfl⟩,⋯,⋯,λD2 hD2=>?_⟩;have s1':=s1;have hD1':=hD1;have hP1:=hP;have ysl:=Paired.length hP;rw[List.length_map,List.length_range] at ysl;refine DG (λi zs σ H'=>∃v,σ=[v]/\iA H5 H'/\H' D2=some (.lst zs)/\Paired (qD H') zs ((List.range i).map (false,·))) ⟨_,rfl,HB iB hD2,OA,.nil⟩ (λi ys σ H' hi=>?_) (λzs σ H6=>?_)
  ·rintro⟨v,rfl,s1,hD1,hP⟩;have hD:=hD2;have hyl:=Paired.length hP;rw[List.length_map,List.length_range] at hyl;rfl';intro p hp;rw[Int.zero_add];obtain⟨b1,c1⟩:=FB (o:=.tup [V.str "slot",V.int (i:Int)]) hp;have hD2:=b1 _ _ hD1;generalize upd H' p _=H2 at *;have kp:∀{c o},H2 c=some o->(∀us,o≠.lst us)->upd H2 D2 (.lst (ys++[V.ref p])) c=some o:=λhc hn=>by rw[oA (bC hc hD2 (λe=>hn _ e))];exact hc
   refine⟨hD2,⋯,ZC (s1.trans b1) hD,?_⟩;rw[rgn];exact JE (Paired.mapP hP λ_ _ ⟨a,e,q⟩=>⟨a,e,kp (b1 _ _ q) (λ_ z=>nomatch z)⟩) ⟨p,rfl,kp c1 (λ_ z=>nomatch z)⟩
  ·rintro⟨v,rfl,s6,hD6,hP6⟩;rw[l2,Int.toNat_natCast] at hP6;have zsl:=Paired.length hP6;rw[List.length_map,List.length_range] at zsl;refine⟨ys,s6 _ _ hD1,zs,hD6,⋯,λp hp=>?_⟩;obtain⟨b7,c7⟩:=FB (o:=.lst (ys++zs)) hp;refine q _ p _ ((s1.trans s6).trans b7) (NB (s1.trans s6) hp) c7 (HQ (Paired.mapP hP λ_ _ h=>h.same (s6.trans b7)) (Paired.mapP hP6 λ_ _ h=>h.same b7))
noncomputable def rC (q:Sh) (ks:List (List Key)):Sh:={q with ks:=q.ks++ks}
noncomputable def JC (s:St) (f:Bool) (j:Nat) (f':Bool) (j':Nat) (r q:Sh):St:=AB (s.put f' j' (some (rC q (yB r.ks)))) f j
theorem xK {s:St} {f f':Bool} {j j':Nat} {o:Option Sh} (h:¬(f=f'/\j=j')):((s.put f' j' o).rw f)[j]?=(s.rw f)[j]?:=by
 cases f with
 |true=>
  cases f' with
  |true=>show (s.fr.set j' o)[j]?=s.fr[j]?;rw[List.getElem?_set,if_neg (λe=>h ⟨rfl,e.symm⟩)]
  |false=>rfl
 |false=>
  cases f' with
  |true=>rfl
  |false=>show (s.sr.set j' o)[j]?=s.sr[j]?;rw[List.getElem?_set,if_neg (λe=>h ⟨rfl,e.symm⟩)]
theorem XH {s:St} {f:Bool} {j:Nat} {o:Option Sh} (h:j < (s.rw f).length):((s.put f j o).rw f)[j]?=some o:=by
 cases f with
 |true=>exact List.getElem?_set_self h
 |false=>exact List.getElem?_set_self h
theorem TZ {s:St} {f:Bool} {j:Nat} {o:Option Sh} (h:(s.rw f)[j]?=some o):s.put f j o=s:=by
 cases f with
 |true=>
  obtain⟨x1,x2⟩:=List.getElem?_eq_some_iff.mp (show s.fr[j]?=some o from h);show {s with fr:=s.fr.set j o}=s;rw[<-x2,List.set_getElem_self]
 |false=>
  obtain⟨x1,x2⟩:=List.getElem?_eq_some_iff.mp (show s.sr[j]?=some o from h);show {s with sr:=s.sr.set j o}=s;rw[<-x2,List.set_getElem_self]
noncomputable def UZ (C P S:Addr):Sp:=λvs H Q _=>∃(z:Ss) (s:St) (t t':Addr) (f f':Bool) (j j':Nat) (r q:Sh),vs=[.ref z.p,.ref t,.ref t']/\lA C P S H z s/\Ap s/\Tw s/\H t=some (.tup [.str (mD f),.int (j:Int)])/\H t'=some (.tup [.str (mD f'),.int (j':Int)])/\(s.rw f)[j]?=some (some r)/\(s.rw f')[j']?=some (some q)/\¬(f=f'/\j=j')/\IE r/\(∀k∈r.ks,k∉q.ks)/\q.ks.length+r.ks.length<=2000/\
 ∀H',lA C P S H' z (JC s f j f' j' r q)->Ap (JC s f j f' j' r q)->Tw (JC s f j f' j' r q)->Kg z q.hd H H'->(∀c,H' c=none->H c=none)->Q .non H'
theorem GJ (T:MB K mg A):FA P w K mg base A.Aa "hand_over" 3 ["self","spot","other"] [] (UZ A.Aa A.Ad A.Ac):=by
 have By:=@BQ P w K mg base A T;have Bc:=@BW P w K mg base A T;have Bz:=@AQ P w K mg base A T;refine T.B6.have XV (λvs H Q E z=>?_) ?_
 ·obtain⟨z,s,t,t',f,f',j,j',r,q,rfl,_⟩:=z;rfl
 ·intro f9 cdv A' outer s H vs Q E hr z;obtain⟨z,s,t,t',f,f',j,j',r,q,rfl,hS,hA,hT,ht,ht',hrj,hqj,hne,hok,hdj,hln,qq⟩:=z;obtain⟨dx,h1⟩:=hS.me;have hjl:=(List.getElem?_eq_some_iff.mp hrj).1;have hjl':=(List.getElem?_eq_some_iff.mp hqj).1;refine⟨_,(aB (rF PassesOwn.leaving rfl (qF (QD (aA 0) T.Ab By (hr.mono (by decide)) ZA (dA (aA 1) nA))) (wC (i:=3) XV.nd rfl (Or.inl rfl)) (BA (aD (QD (aA 0) T.Ab Bc (hr.mono (by decide)) ZA (dA (aA 2) (dA (aA 3) nA))))))
   (BA (aD (QD (aA 0) T.Ab Bz (hr.mono (by decide)) ZA (dA (aA 1) nA))))),?_⟩
  rfl';simp only[h1];rfl';refine⟨EC ∅,z,s,t,f,j,some r,rfl,hS,ht,hrj,(λq9 e=>by cases e;exact hok),λl H1 hl s1 htd=>?_⟩;obtain⟨us,hu,hP⟩:=htd;have hul:=Paired.length hP;rw[lE.length_eq] at hul;have S1:=hS.same s1;have hl4:=hS.nf hl;have hlp:l≠z.p:=λe=>by rw[e,h1] at hl;cases hl
  have hsn:(yB r.ks).Nodup:=lE.nodup_iff.mpr hok.2.1;have e0:s.put f' j' (some (rC q ((yB r.ks).take 0)))=s:=by
   have:rC q ((yB r.ks).take 0)=q:=by unfold rC;rw[List.take_zero,List.append_nil]
   rw[this];exact TZ hqj
  have hqd:H q.hd=some (.dT (RC q.ks)):=by
   obtain⟨vs,_,x3⟩:=hS.row f';obtain⟨_,_,_,_,_,e⟩:=mF x3 hqj;exact e
  have kt:∀{G:Hp} {c us},Kg z q.hd H G->H c=some (.tup us)->G c=some (.tup us):=λk hc=>k _ _ hc (λe=>by rw[e,h1] at hc;cases hc) (λe=>by obtain⟨vs,h9⟩:=hS.fours _ e;rw[hc] at h9;cases h9) (λe=>by rw[e,hqd] at hc;cases hc);refine⟨l,rfl,⟨_,kA.of hu⟩,lL (K:=K) (xs:=us) (λi σ G=>∃v,σ=[some (.ref z.p),some (.ref t),some (.ref t'),v]/\lA A.Aa A.Ad A.Ac G z (s.put f' j' (some (rC q ((yB r.ks).take i))))/\Ap (s.put f' j' (some (rC q ((yB r.ks).take i))))/\Kg z q.hd H1 G/\∀c,G c=none->H1 c=none) ⟨_,rfl,by rw[e0];exact S1,by rw[e0];exact hA,(λc o h _ _ _=>h),λc h=>h⟩ (λi σ G _ ⟨_,_,_,_,k,_⟩=>kA.of (k _ _ hu hlp hl4 (λe=>by rw[e,hqd] at hl;cases hl))) (λi v σ G hi=>?_) (λσ G=>?_)⟩
  ·rintro⟨v3,rfl,S2,A2,k2,d2⟩;obtain⟨k9,hk1,a9,rfl,ha9⟩:=jE hP hi;have hkr:k9∈r.ks:=lE.mem_iff.mp (List.mem_of_getElem? hk1);have htk:(yB r.ks).take (i+1)=(yB r.ks).take i++[k9]:=by rw[List.take_add_one,hk1];rfl
   have hil:=(List.getElem?_eq_some_iff.mp hk1).1;rw[lE.length_eq] at hil;obtain⟨dx2,h2⟩:=S2.me;have kt2:∀{c us},H1 c=some (.tup us)->G c=some (.tup us):=λhc=>k2 _ _ hc (λe=>by rw[e,s1 _ _ h1] at hc;cases hc) (λe=>by obtain⟨vs,h9⟩:=S1.fours _ e;rw[hc] at h9;cases h9) (λe=>by rw[e,s1 _ _ hqd] at hc;cases hc);rfl';refine⟨dx2,_,h2,EC ∅,z,_,t',a9,f',j',rC q ((yB r.ks).take i),k9,rfl,S2,A2,kt2 (s1 _ _ ht'),XH hjl',kt2 ha9,λz9=>?_,?_,λH' a1 a2 a3 a4=>?_⟩
   ·rcases List.mem_append.mp z9 with z9|z9
    ·exact hdj k9 hkr z9
    ·obtain⟨x,hx⟩:=List.mem_iff_getElem?.mp z9;rw[List.getElem?_take] at hx
     split at hx
     ·rename_i hxi;obtain⟨y1,y2⟩:=List.getElem?_eq_some_iff.mp hx;obtain⟨y3,y4⟩:=List.getElem?_eq_some_iff.mp hk1;exact (List.pairwise_iff_getElem.mp hsn) x i y1 y3 hxi (y2.trans y4.symm)
     ·cases hx
   ·show (q.ks++(yB r.ks).take i).length<=2000;rw[List.length_append,List.length_take];omega
   ·have e9:{rC q ((yB r.ks).take i) with ks:=(rC q ((yB r.ks).take i)).ks++[k9]}=rC q ((yB r.ks).take (i+1)):=by
     unfold rC;rw[htk,List.append_assoc]
    rw[MZ,e9] at a1 a2;exact⟨a1,a2,λc o hc n1 n2 n3=>a3 c o (k2 c o hc n1 n2 n3) n1 n2 n3,λc hc=>d2 c (a4 c hc)⟩
  ·rintro⟨v3,rfl,S2,A2,k2,d2⟩;rw[hul,<-(lE (l:=r.ks)).length_eq,List.take_length] at S2 A2;obtain⟨dx2,h2⟩:=S2.me;have kt2:∀{c us},H1 c=some (.tup us)->G c=some (.tup us):=λhc=>k2 _ _ hc (λe=>by rw[e,s1 _ _ h1] at hc;cases hc) (λe=>by obtain⟨vs,h9⟩:=S1.fours _ e;rw[hc] at h9;cases h9) (λe=>by rw[e,s1 _ _ hqd] at hc;cases hc);have T2:=hT.put (r':=rC q (yB r.ks)) hqj;have hlens:=S2.lens;rfl';refine⟨dx2,_,h2,EC ∅,z,_,t,f,j,rfl,S2,kt2 (s1 _ _ ht),?_,λk9 hk9=>?_,λH' a1 a2=>?_⟩
   ·have:=(List.getElem?_eq_some_iff.mp ((xK (s:=s) (o:=some (rC q (yB r.ks))) hne).trans hrj)).1;exact this
   ·have:=(List.getElem?_eq_some_iff.mp (T2.there j k9 hk9)).1;omega
   ·refine qq H' a1 (zW A2) (T2.empt ((xK hne).trans hrj)) (λc o hc n1 n2 n3=>a2 c o (k2 c o (s1 _ _ hc) n1 n2 n3) n1 n2) λc hc=>?_;exact NB s1 (d2 c (a2.was S2 a1 hc))
set_option genInjectivity false in
structure Fs where
 F:List (List Int×(Bool×Nat))
 s:St
 M:List ((Bool×Nat)×(Bool×Nat))
noncomputable def pB (s:St) (p:Bool×Nat):Option Sh:=((s.rw p.1)[p.2]?).getD none
noncomputable def sC (x:Fs) (p:Bool×Nat):Fs:=match pB x.s p with
 |none=>x
 |some r=>if VD r.ks=true then x else match x.F.find? λe=>decide (e.1=r.b) with
  |none=>{x with F:=x.F++[(r.b,p)]}
  |some e=>match pB x.s e.2 with
   |none=>x
   |some q=>{x with s:=JC x.s p.1 p.2 e.2.1 e.2.2 r q,M:=x.M++[(p,e.2)]}
noncomputable def NA (s:St) (i:Nat):Fs:=((spA s).take i).foldl sC ⟨[],s,[]⟩
noncomputable def DA (s:St):Fs:=NA s (spA s).length
theorem IQ {s:St} {i:Nat} {p:Bool×Nat} (h:(spA s)[i]?=some p):NA s (i+1)=sC (NA s i) p:=by
 unfold NA;rw[List.take_add_one,h,List.foldl_append]
 rfl
noncomputable def gG (H:Hp) (v:V) (m:(Bool×Nat)×(Bool×Nat)):Prop:=∃a t1 t2,v=.ref a/\H a=some (.tup [.ref t1,.ref t2])/\qD H (.ref t1) m.1/\qD H (.ref t2) m.2
theorem gG.to {H H':Hp} {v:V} {m:(Bool×Nat)×(Bool×Nat)} (h:gG H v m) (k:∀c us,H c=some (.tup us)->H' c=some (.tup us)):gG H' v m:=by
 obtain⟨a,t1,t2,e,h1,⟨b1,e1,q1⟩,⟨b2,e2,q2⟩⟩:=h;exact⟨a,t1,t2,e,k _ _ h1,⟨b1,e1,k _ _ q1⟩,⟨b2,e2,k _ _ q2⟩⟩
noncomputable def ZD (b:List Int):List Key:=b.map Sum.inl
theorem FW:∀{a b:List Int},ZD a=ZD b->a=b
 |[],[],_=>rfl
 |[],_::_,h=>by cases h
 |_::_,[],h=>by cases h
 |x::a,y::b,h=>by
  unfold ZD at h;rw[List.map_cons,List.map_cons] at h;injection h with h1 h2;rw[Sum.inl.inj h1,FW (a:=a) (b:=b) h2]
noncomputable def GW (H:Hp) (kv:List Key×V) (e:List Int×(Bool×Nat)):Prop:=kv.1=ZD e.1/\qD H kv.2 e.2
theorem HJ {H:Hp} {kvs:List (List Key×V)} {F:List (List Int×(Bool×Nat))} (h:Paired (GW H) kvs F) {b:List Int}:match F.find? (λe=>decide (e.1=b)) with|none=>xB kvs (ZD b)=none|some e=>∃v,xB kvs (ZD b)=some v/\qD H v e.2/\e.1=b:=by
 induction h with
 |nil=>rfl
 |@cons kv e ks es r t ih=>
  obtain⟨r1,r2⟩:=r;obtain⟨k0,v0⟩:=kv;have r1:k0=ZD e.1:=r1;by_cases c:e.1=b
  ·rw[List.find?_cons,decide_eq_true c];exact⟨v0,wO (by rw[r1,c]),r2,c⟩
  ·rw[List.find?_cons,decide_eq_false c];have hv:xB ((k0,v0)::ks) (ZD b)=xB ks (ZD b):=SM (λz=>c (FW (r1.symm.trans z)));show match es.find? (λe=>decide (e.1=b)) with|none=>xB ((k0,v0)::ks) (ZD b)=none|some e=>∃v,xB ((k0,v0)::ks) (ZD b)=some v/\qD H v e.2/\e.1=b
   rw[hv];exact ih
structure Fi (s0:St) (i:Nat) (x:Fs):Prop where
 fr:x.s.fr.length=s0.fr.length
 sr:x.s.sr.length=s0.sr.length
 first:∀e∈x.F,(∃q,pB x.s e.2=some q/\q.b=e.1/\VD q.ks=false)/\∃a < i,(spA s0)[a]?=some e.2
 nd:((JA x.s).flatMap Sh.ks).Nodup
 tri:∀k∈(JA x.s).flatMap Sh.ks,eC k
 few:∀b,(((JA x.s).filter λr=>decide (r.b=b)).flatMap Sh.ks).length < 640
 fl:x.F.length<=i
 ml:x.M.length<=i
theorem JQ {s:St} {f:Bool} {j:Nat} {r r':Sh} (h:(s.rw f)[j]?=some (some r)):(JA s).Perm (r::JA (s.put f j none))/\(JA (s.put f j (some r'))).Perm (r'::JA (s.put f j none)):=by
 cases f with
 |true=>
  have h:s.fr[j]?=some (some r):=h;unfold JA;show (als (s.fr++s.sr)).Perm (r::als (s.fr.set j none++s.sr))/\(als (s.fr.set j (some r')++s.sr)).Perm (r'::als (s.fr.set j none++s.sr));rw[GD,GD,GD];exact⟨(zJ h).append_right _,(zQ h).append_right _⟩
 |false=>
  have h:s.sr[j]?=some (some r):=h;unfold JA;show (als (s.fr++s.sr)).Perm (r::als (s.fr++s.sr.set j none))/\(als (s.fr++s.sr.set j (some r'))).Perm (r'::als (s.fr++s.sr.set j none));rw[GD,GD,GD];exact⟨((zJ h).append_left _).trans List.perm_middle,((zQ h).append_left _).trans List.perm_middle⟩
theorem VZ {s:St} {f:Bool} {j:Nat}:JA (AB s f j)=JA (s.put f j none):=by
 cases f with
 |true=>show JA (untie (s.put true j none) j)=_;unfold JA;rw[YE.1,YE.2.1]
 |false=>rfl
theorem KQ {s:St} {f f':Bool} {j j':Nat} {r q:Sh} (hr:(s.rw f)[j]?=some (some r)) (hq:(s.rw f')[j']?=some (some q)) (hne:¬(f=f'/\j=j')):(rC q (yB r.ks)::JA s).Perm (q::r::JA (JC s f j f' j' r q)):=by
 obtain⟨p1,p2⟩:=JQ (r':=rC q (yB r.ks)) hq;obtain⟨p3,_⟩:=JQ (r':=r) ((xK (o:=some (rC q (yB r.ks))) hne).trans hr);unfold JC;rw[VZ];refine (List.Perm.cons _ p1).trans ((List.Perm.swap ..).trans (List.Perm.cons q ?_));exact p2.symm.trans p3
theorem WZ {s:St} {f:Bool} {j:Nat} {p:Bool×Nat} (h:¬(p.1=f/\p.2=j)):pB (AB s f j) p=pB s p:=by
 unfold pB;have e:(AB s f j).rw p.1=(s.put f j none).rw p.1:=by
  cases f with
  |true=>show (untie (s.put true j none) j).rw p.1=_;cases p.1 with
   |true=>exact YE.1
   |false=>exact YE.2.1
  |false=>rfl
 rw[e,xK h]
theorem sM {s:St} {f f':Bool} {j j':Nat} {r q:Sh} {p:Bool×Nat} (hq:(s.rw f')[j']?=some (some q)) (h1:¬(p.1=f/\p.2=j)):pB (JC s f j f' j' r q) p=if p.1=f'/\p.2=j' then some (rC q (yB r.ks)) else pB s p:=by
 unfold JC;rw[WZ h1];unfold pB
 split
 ·rename_i e;obtain⟨e1,e2⟩:=e;rw[e1,e2,XH (List.getElem?_eq_some_iff.mp hq).1];rfl
 ·rename_i e;rw[xK e]
theorem IJ {s:St} {f f':Bool} {j j':Nat} {r q:Sh}:(JC s f j f' j' r q).fr.length=s.fr.length/\(JC s f j f' j' r q).sr.length=s.sr.length:=by
 have e:∀(u:St) (b:Bool) (k:Nat) (o:Option Sh),(u.put b k o).fr.length=u.fr.length/\(u.put b k o).sr.length=u.sr.length:=λu b k o=>by
  cases b with
  |true=>exact⟨List.length_set,rfl⟩
  |false=>exact⟨rfl,List.length_set⟩
 unfold JC;cases f with
 |true=>
  show (untie ((s.put f' j' (some (rC q (yB r.ks)))).put true j none) j).fr.length=_/\(untie ((s.put f' j' (some (rC q (yB r.ks)))).put true j none) j).sr.length=_;rw[YE.1,YE.2.1,(e _ _ _ _).1,(e _ _ _ _).2,(e _ _ _ _).1,(e _ _ _ _).2];exact⟨rfl,rfl⟩
 |false=>
  show ((s.put f' j' (some (rC q (yB r.ks)))).put false j none).fr.length=_/\((s.put f' j' (some (rC q (yB r.ks)))).put false j none).sr.length=_;rw[(e _ _ _ _).1,(e _ _ _ _).2,(e _ _ _ _).1,(e _ _ _ _).2];exact⟨rfl,rfl⟩
theorem ME {s:St} {p:Bool×Nat} {r:Sh} (h:pB s p=some r):(s.rw p.1)[p.2]?=some (some r):=by
 unfold pB at h;cases e:(s.rw p.1)[p.2]? with
 |none=>rw[e] at h;cases h
 |some o=>rw[e] at h;have h:o=some r:=h;rw[h]
theorem TN {s:St}:(spA s).Nodup:=by
 unfold spA;rw[List.nodup_append];refine⟨?_,?_,λx hx y hy e=>?_⟩
 ·exact List.pairwise_map.mpr (List.nodup_range.imp λh e=>h (Prod.mk.inj e).2)
 ·exact List.pairwise_map.mpr (List.nodup_range.imp λh e=>h (Prod.mk.inj e).2)
 ·obtain⟨a,_,rfl⟩:=List.mem_map.mp hx;obtain⟨b,_,rfl⟩:=List.mem_map.mp hy;cases (Prod.mk.inj e).1
theorem Fi.next {s0:St} {i:Nat} {x:Fs} {p:Bool×Nat} (h:Fi s0 i x) (hp:(spA s0)[i]?=some p):Fi s0 (i+1) (sC x p):=by
 have more:Fi s0 (i+1) x:=⟨h.fr,h.sr,λe he=>let ⟨a,b,c,d⟩:=h.first e he;⟨a,b,⋯,d⟩,h.nd,h.tri,h.few,by have:=h.fl;omega,by have:=h.ml;omega⟩
 have apart:∀e∈x.F,¬(e.2.1=p.1/\e.2.2=p.2):=λe he z=>by
  obtain⟨_,a,ha,e9⟩:=h.first e he;have ep:e.2=p:=Prod.ext z.1 z.2;rw[ep] at e9;obtain⟨y1,y2⟩:=List.getElem?_eq_some_iff.mp e9;obtain⟨y3,y4⟩:=List.getElem?_eq_some_iff.mp hp;exact (List.pairwise_iff_getElem.mp (TN (s:=s0))) a i y1 y3 ha (y2.trans y4.symm)
 unfold sC;cases e1:pB x.s p with
 |none=>exact more
 |some r=>
  show Fi s0 (i+1) (if VD r.ks=true then x else _)
  split
  ·exact more
  ·rename_i hb;cases e2:x.F.find? λe=>decide (e.1=r.b) with
   |none=>
    refine⟨h.fr,h.sr,λe he=>?_,h.nd,h.tri,h.few,by have:=h.fl;show (x.F++[(r.b,p)]).length<=i+1;rw[List.length_append];show x.F.length+1<=i+1;omega,by have:=h.ml;show x.M.length<=i+1;omega⟩;rcases List.mem_append.mp he with he|he
    ·exact more.first e he
    ·rw[List.mem_singleton.mp he];exact⟨⟨r,e1,rfl,by cases hx:VD r.ks with|true=>exact absurd hx hb|false=>rfl⟩,i,⋯,hp⟩
   |some e=>
    have heF:=List.mem_of_find?_eq_some e2;have heb:e.1=r.b:=by have:=List.find?_some e2;simpa using this
    obtain⟨⟨q,hq,hqb,hqn⟩,_⟩:=h.first e heF;show Fi s0 (i+1) (match pB x.s e.2 with|none=>x|some q=>{x with s:=JC x.s p.1 p.2 e.2.1 e.2.2 r q,M:=x.M++[(p,e.2)]});rw[hq];have hne:¬(p.1=e.2.1/\p.2=e.2.2):=λz=>apart e heF ⟨z.1.symm,z.2.symm⟩;have pm:=KQ (ME e1) (ME hq) hne;have hrb:VD r.ks=false:=by cases hx:VD r.ks with|true=>exact absurd hx hb|false=>rfl
    have pmk:((JA x.s).flatMap Sh.ks).Perm ((JA (JC x.s p.1 p.2 e.2.1 e.2.2 r q)).flatMap Sh.ks):=by
     have p9:=pm.flatMap_right Sh.ks;rw[List.flatMap_cons,List.flatMap_cons,List.flatMap_cons] at p9;have p9:((q.ks++yB r.ks)++(JA x.s).flatMap Sh.ks).Perm (q.ks++(r.ks++(JA (JC x.s p.1 p.2 e.2.1 e.2.2 r q)).flatMap Sh.ks)):=p9;rw[List.append_assoc] at p9;have p8:=(List.perm_append_left_iff _).mp p9;exact (List.perm_append_left_iff _).mp ((lE.symm.append_right _).trans p8)
    obtain⟨l1,l2⟩:=IJ (s:=x.s) (f:=p.1) (j:=p.2) (f':=e.2.1) (j':=e.2.2) (r:=r) (q:=q);refine⟨l1.trans h.fr,l2.trans h.sr,λe' he'=>?_,pmk.nodup_iff.mp h.nd,λk hk=>h.tri k (pmk.mem_iff.mpr hk),λb=>?_,(by have:=h.fl;show x.F.length<=i+1;omega),by have:=h.ml;show (x.M++[(p,e.2)]).length<=i+1;rw[List.length_append];show x.M.length+1<=i+1;omega⟩
    ·obtain⟨⟨q',x1,x2,x3⟩,a,x4,x5⟩:=h.first e' he';refine⟨?_,a,⋯,x5⟩;show ∃q0,pB (JC x.s p.1 p.2 e.2.1 e.2.2 r q) e'.2=some q0/\_;rw[sM (ME hq) (apart e' he')]
     split
     ·rename_i ee;have:e'.2=e.2:=Prod.ext ee.1 ee.2;rw[this,hq] at x1;obtain rfl:=Option.some.inj x1;refine⟨_,rfl,x2,?_⟩;show (q.ks++yB r.ks).any fG=false;rw[List.any_append];have y1:q.ks.any fG=false:=hqn;have y2:(yB r.ks).any fG=false:=by
       rw[List.any_eq_false];intro k hk;have:=(List.any_eq_false.mp (show r.ks.any fG=false from hrb)) k (lE.mem_iff.mp hk);exact this
      rw[y1,y2];rfl
     ·exact⟨q',x1,x2,x3⟩
    ·have p9:=(pm.filter λr=>decide (r.b=b)).flatMap_right Sh.ks;have p9:=p9.length_eq;have fw:=h.few b;have eb:(rC q (yB r.ks)).b=q.b:=rfl;by_cases c:r.b=b
     ·have cq:q.b=b:=by rw[hqb,heb];exact c
      have k1:∀(y:Sh) (l:List Sh),y.b=b->(y::l).filter (λr=>decide (r.b=b))=y::l.filter (λr=>decide (r.b=b)):=λy l hy=>List.filter_cons_of_pos (p:=λr:Sh=>decide (r.b=b)) (decide_eq_true hy);rw[k1 _ _ (eb.trans cq),k1 _ _ cq,k1 _ _ c,List.flatMap_cons,List.flatMap_cons,List.flatMap_cons,List.length_append,List.length_append,List.length_append] at p9;have l9:(rC q (yB r.ks)).ks.length=q.ks.length+r.ks.length:=by show (q.ks++yB r.ks).length=_;rw[List.length_append,lE.length_eq]
      rw[l9] at p9;show (((JA (JC x.s p.1 p.2 e.2.1 e.2.2 r q)).filter λr=>decide (r.b=b)).flatMap Sh.ks).length < 640;omega
     ·have cq:¬(q.b=b):=by rw[hqb,heb];exact c
      have k1:∀(y:Sh) (l:List Sh),¬(y.b=b)->(y::l).filter (λr=>decide (r.b=b))=l.filter (λr=>decide (r.b=b)):=λy l hy=>List.filter_cons_of_neg (p:=λr:Sh=>decide (r.b=b)) (by simpa using hy);rw[k1 _ _ (λz=>cq (eb.symm.trans z)),k1 _ _ cq,k1 _ _ c] at p9;show (((JA (JC x.s p.1 p.2 e.2.1 e.2.2 r q)).filter λr=>decide (r.b=b)).flatMap Sh.ks).length < 640;omega
theorem lA.bxl {C P S:Addr} {H:Hp} {z:Ss} {s:St} (h:lA C P S H z s) {r:Sh} (hr:some r∈s.fr\/some r∈s.sr):H r.bx=some (.lst (r.b.map V.int)):=by
 obtain⟨_,_,_,_,f3,_⟩:=h.fr;obtain⟨_,_,_,_,g3,_⟩:=h.sl;rcases hr with hr|hr
 ·obtain⟨i,hi⟩:=List.mem_iff_getElem?.mp hr;obtain⟨_,_,_,_,e,_⟩:=mF f3 hi;exact e
 ·obtain⟨i,hi⟩:=List.mem_iff_getElem?.mp hr;obtain⟨_,_,_,_,e,_⟩:=mF g3 hi;exact e
theorem lA.lup {C P S:Addr} {G:Hp} {z:Ss} {s:St} {g:Addr} {us:List V} {o:HO} (h:lA C P S G z s) (hl:G g=some (.lst us)) (h4:g∉z.four) (hb:∀r∈JA s,r.bx≠g):lA C P S (upd G g o) z s:=by
 obtain⟨dx,h1⟩:=h.me;obtain⟨dx1,vs1,f1,f2,f3,f4,f5⟩:=id h.fr;obtain⟨dx2,vs2,g1,g2,g3,g4,g5⟩:=id h.sl;have ni:∀{c D d fs},G c=some (.ins D d fs)->upd G g o c=some (.ins D d fs):=λhc=>by rw[oA (bC hc hl (λz=>nomatch z))];exact hc
 have nf:∀{c u},G c=some u->c∈z.four->upd G g o c=some u:=λhc hn=>by rw[oA (λe=>h4 (by rw[<-e];exact hn))];exact hc
 exact⟨⟨dx,ni h1⟩,⟨dx1,vs1,ni f1,nf f2 (uF (f:=true)),oG hl f3 (λr hr=>hb r (jD.mpr (.inl hr))),nf f4 (NH (f:=true)),f5⟩,⟨dx2,vs2,ni g1,nf g2 (uF (f:=false)),oG hl g3 (λr hr=>hb r (jD.mpr (.inr hr))),nf g4 (NH (f:=false)),g5⟩,h.n4,h.bx,h.len,h.hh⟩
theorem XZ {f f':Bool} (h:mD f=mD f'):f=f':=by
 cases f<;>cases f'<;>first|rfl|exact absurd h ∅
noncomputable def yK (p:Bool×Nat):List Key:=[.inr (mD p.1),.inl (p.2:Int)]
theorem YZ {p q:Bool×Nat} (h:yK p=yK q):p=q:=by
 injection h with h1 h2;injection h2 with h2 _;have e1:=XZ (Sum.inr.inj h1);have e2:(p.2:Int)=q.2:=Sum.inl.inj h2;exact Prod.ext e1 ⋯
theorem JJ {S d:Addr} {G:Hp} {kvs:List (List Key×V)} {o:HO} (hl:G d=some (.dT kvs)) {vs:List V} {rows:List (Option Sh)} (h:WB S G vs rows) (hb:∀r,some r∈rows->r.hd≠d):WB S (upd G d o) vs rows:=QN hl h hb
theorem lA.dup {C P S:Addr} {G:Hp} {z:Ss} {s:St} {d:Addr} {kvs:List (List Key×V)} {o:HO} (h:lA C P S G z s) (hv:G d=some (.dT kvs)) (hd:∀r∈JA s,r.hd≠d):lA C P S (upd G d o) z s:=by
 have np:∀{c u},G c=some u->(∀us,u≠.dT us)->upd G d o c=some u:=λ{c u} hc ho=>by rw[oA (λz=>by rw[z,hv] at hc;exact ho _ (Option.some.inj hc).symm)];exact hc
 obtain⟨dx,h1⟩:=h.me;obtain⟨dx1,vs1,f1,f2,f3,f4,f5⟩:=id h.fr;obtain⟨dx2,vs2,g1,g2,g3,g4,g5⟩:=id h.sl;have kp:∀{v:V} {r:Option Sh},(∀q,r=some q->q.hd≠d)->XA S G v r->XA S (upd G d o) v r:=λ{v r} hb hv=>by
  cases r with
  |none=>exact hv
  |some r=>
   obtain⟨e,⟨x,x1⟩,x2,x3⟩:=hv;exact⟨e,⟨x,np x1 λ_ z=>nomatch z⟩,np x2 (λ_ z=>nomatch z),by rw[oA (hb r rfl)];exact x3⟩
 have ly:∀{vs:List V} {rows:List (Option Sh)},WB S G vs rows->(∀r,some r∈rows->r.hd≠d)->WB S (upd G d o) vs rows:=λ{vs rows} hl hb=>JJ hv hl hb;exact⟨⟨dx,np h1 λ_ z=>nomatch z⟩,⟨dx1,vs1,np f1 (λ_ z=>nomatch z),np f2 (λ_ z=>nomatch z),ly f3 (λr hr=>hd r (jD.mpr (.inl hr))),np f4 (λ_ z=>nomatch z),f5⟩,⟨dx2,vs2,np g1 (λ_ z=>nomatch z),np g2 (λ_ z=>nomatch z),ly g3 (λr hr=>hd r (jD.mpr (.inr hr))),np g4 (λ_ z=>nomatch z),g5⟩,h.n4,h.bx,h.len,h.hh⟩
structure HW (A:UD) (H:Hp) (z:Ss) (s:St) (d g l:Addr) (us:List V) (i:Nat) (G:Hp):Prop where
 ss:lA A.Aa A.Ad A.Ac G z (NA s i).s
 ap:Ap (NA s i).s
 tw:Tw (NA s i).s
 hd:∀r∈JA (NA s i).s,r.hd≠d/\r.bx≠g
 dd:∃kvs,G d=some (.dT kvs)/\Paired (GW G) kvs (NA s i).F
 gg:∃ys,G g=some (.lst ys)/\Paired (gG G) ys (NA s i).M
 ll:G l=some (.lst us)/\Paired (qD G) us (spA s)
 fi:Fi s i (NA s i)
 kd:Kd z H G
 dm:∀c,G c=none->H c=none
noncomputable def IW (A:UD):Sp:=λvs H Q _=>∃(z:Ss) (s:St),vs=[.ref z.p]/\lA A.Aa A.Ad A.Ac H z s/\Ap s/\Tw s/\Fi s 0 ⟨[],s,[]⟩/\
 ∀H' g ys,lA A.Aa A.Ad A.Ac H' z (DA s).s->Ap (DA s).s->Tw (DA s).s->Fi s (spA s).length (DA s)->H g=none->H' g=some (.lst ys)->Paired (gG H') ys (DA s).M->Kd z H H'->(∀c,H' c=none->H c=none)->Q (.ref g) H'
theorem KJ (T:MB K mg A):FA P w K mg base A.Aa "fold" 4 ["self"] [] (IW A):=by
 have Ck:=@rM P w K mg base A T;have Am:=@JG P w K mg base A T;have Da:=@qM P w K mg base A T;have Cl:=@GJ P w K mg base A T;refine T.Ea.have oK (λvs H Q E z=>?_) ?_
 ·obtain⟨z,s,rfl,_⟩:=z;rfl
 ·intro f cdv A' outer s H vs Q E hr z;obtain⟨z,s,rfl,hS,hA,hT,hF,q⟩:=z;obtain⟨dx,h1⟩:=hS.me;have hz:=PySem.sizeLine_eq;refine⟨_,(aB (mB (i:=1) oK.nd rfl (Or.inl rfl) RX)
   (aB (mB (i:=2) oK.nd rfl (Or.inl rfl) (UC nA))
   (aB (rF PassesOwn.leaving rfl (qF (vD (aA 0) T.Ab Ck (hr.mono (by decide)) ZA)) (wC (i:=3) oK.nd rfl (Or.inl rfl)) (nB (mB (i:=4) oK.nd rfl (Or.inl rfl) (QD (aA 0) T.Ab Am (hr.mono (by decide)) ZA (dA (aA 3) nA)))
   (BA (GB (PW.pt (QE (qB MD (aA 4) lB (gA _)) (OE (lG (XD (vD (aA 4) T.An Da (hr.mono (by decide)) ZA)))))) (aB (mB (i:=5) oK.nd rfl (Or.inl rfl) (OY (BO hr) (aA 1) (cK MX rfl T.Dq PyProof.Rows.boot_tuple (dA (LA (aA 4) rfl) nA)) (aA 3) ⟨rfl,rfl,rfl,rfl⟩))
   (BA (GB (qB (EI (n:=4) (jK hr)) (aA 5) (aA 3) (gA _)) (aB (aD (QD (aA 0) T.Ab Cl (hr.mono (by decide)) ZA (dA (aA 3) (dA (aA 5) nA))))
   (BA (aD (BF PySem.F.plainAttrs_list PySem.F.slot_list_append PySem.F.type_list_append CF (aA 2) (dA (VC (dA (aA 3) (dA (aA 5) nA))) nA))))) XB))) XB))))
   (BA (zB (aA 2)))))),?_⟩
  unfold XF nL;rfl';intro d hd g hg;obtain⟨b1,c1⟩:=FB (o:=.dT []) hd;obtain⟨b2,c2⟩:=FB (o:=.lst []) hg;have b12:=b1.trans b2;have c12:=b2 _ _ c1;have hg0:=NB b1 hg;generalize upd (upd H d (.dT [])) g (.lst [])=H2 at *;refine⟨dx,_,b12 _ _ h1,EC ∅,z,s,rfl,hS.same b12,λH3 l us s3 hl hl3 hP3=>?_⟩;have s03:=b12.trans s3;have hdH:∀r∈JA s,r.hd≠d:=λr hr e=>by
   have ha:r.hd∈oE s:=by
    unfold oE;exact XE.mpr ⟨r,yQ.mp hr,rfl⟩
   obtain⟨kvs,h9⟩:=hS.hd _ ha;rw[e,hd] at h9;cases h9
  have hgd:g≠d:=λe=>by rw[e,c1] at hg;cases hg
  have hgl:l≠g:=λe=>by rw[e,c2] at hl;cases hl
  have hl0:=NB b12 hl;refine⟨l,rfl,⟨_,kA.of hl3⟩,lL (K:=K) (xs:=us) (λi σ G=>∃v3 v4 v5,σ=[some (.ref z.p),some (.ref d),some (.ref g),v3,v4,v5]/\HW A H z s d g l us i G) ⟨_,_,_,rfl,⟨hS.same s03,hA,hT,(λr hr=>⟨hdH r hr,λe=>by have:=hS.bxl (jD.mp hr);rw[e,hg0] at this;cases this⟩),⟨[],s3 _ _ c12,.nil⟩,⟨[],s3 _ _ c2,.nil⟩,⟨hl3,hP3⟩,hF,Kd.of s03,λc hc=>NB s03 hc⟩⟩ (λi σ G _ ⟨_,_,_,_,h⟩=>kA.of h.ll.1) (λi v σ G hi=>?_) (λσ G=>?_)⟩
  ·rintro⟨v3,v4,v5,rfl,hI⟩;obtain⟨hGl,hPl⟩:=hI.ll;obtain⟨p,hp,t,rfl,ht⟩:=jE hPl hi;obtain⟨kvs,hGd,hPd⟩:=hI.dd;obtain⟨ys,hGg,hPg⟩:=hI.gg;obtain⟨dx2,h2⟩:=hI.ss.me;have esucc:=IQ hp;have fnx:=hI.fi.next hp;have iss:=hI.ss;have iap:=hI.ap;have itw:=hI.tw;have ihd:=hI.hd;have ifi:=hI.fi;have ikd:=hI.kd;have idm:=hI.dm;clear hI;generalize NA s i=x at *;have hpl:p.2 < (x.s.rw p.1).length:=by
    have:=List.mem_of_getElem? hp;unfold spA at this;rcases List.mem_append.mp this with h9|h9
    ·obtain⟨y,hy,rfl⟩:=List.mem_map.mp h9;have:=List.mem_range.mp hy;show y < x.s.fr.length;rw[ifi.fr];exact this
    ·obtain⟨y,hy,rfl⟩:=List.mem_map.mp h9;have:=List.mem_range.mp hy;show y < x.s.sr.length;rw[ifi.sr];exact this
   obtain⟨o,ho⟩:∃o,(x.s.rw p.1)[p.2]?=some o:=⟨_,List.getElem?_eq_getElem hpl⟩
   have hlk:pB x.s p=o:=by unfold pB;rw[ho];rfl
   rfl';refine wA (λσ G'=>∃v2,σ=[some (.ref z.p),some (.ref d),some (.ref g),some (.ref t),some v2,v5]/\G'=G/\XA A.Ac G v2 o) ?_ λU9 D9 hU9 hD9 σ6 G6=>?_
   ·rfl';exact⟨dx2,_,h2,EC ∅,z,x.s,t,p.1,p.2,o,rfl,iss,ht,ho,λv2 hv2=>⟨rfl,hv2⟩⟩
   rintro⟨v2,rfl,rfl,hv2⟩;subst hU9 hD9;have stay:NA s (i+1)=x->∀G9,iA G6 G9->HW A H z s d g l us (i+1) G9:=λe G9 s9=>by
    have fn:=fnx;rw[<-esucc,e] at fn;refine⟨by rw[e];exact iss.same s9,by rw[e];exact iap,by rw[e];exact itw,by rw[e];exact ihd,⟨kvs,s9 _ _ hGd,by rw[e];exact Paired.mapP hPd λ_ _ ⟨e1,e2⟩=>⟨e1,e2.same s9⟩⟩,⟨ys,s9 _ _ hGg,by rw[e];exact Paired.mapP hPg λ_ _ h=>h.to λc us hc=>s9 _ _ hc⟩,⟨s9 _ _ hGl,Paired.mapP hPl λ_ _ h=>h.same s9⟩,by rw[e];exact fn,ikd.trans (Kd.of s9),λc hc=>idm c (NB s9 hc)⟩
   have fn:Fi s (i+1) (NA s (i+1)):=by rw[esucc];exact fnx
   unfold sC at esucc;rw[hlk] at esucc;rfl';cases o with
   |none=>
    obtain rfl:v2=.non:=hv2;exact wF (by rw[decide_eq_true rfl];rfl) (stay esucc G6 iB)
   |some r=>
    obtain⟨rfl,⟨dxr,g1⟩,g2,g3⟩:=id hv2;have hrm:r∈JA x.s:=by
     rw[jD];cases e9:p.1 with
     |true=>rw[e9] at ho;exact .inl (List.mem_of_getElem? ho)
     |false=>rw[e9] at ho;exact .inr (List.mem_of_getElem? ho)
    have hkm:∀k∈r.ks,k∈(JA x.s).flatMap Sh.ks:=λk hk=>List.mem_flatMap.mpr ⟨r,hrm,hk⟩;have hlen:r.ks.length < 640:=by
     have:=ifi.few r.b;have h9:r.ks.length<=(((JA x.s).filter λy=>decide (y.b=r.b)).flatMap Sh.ks).length:=by
      have hm:r∈(JA x.s).filter λy=>decide (y.b=r.b):=List.mem_filter.mpr ⟨hrm,decide_eq_true rfl⟩;obtain⟨l1,l2,e9⟩:=List.append_of_mem hm;rw[e9,List.flatMap_append,List.flatMap_cons,List.length_append,List.length_append];omega
     omega
    have esucc:NA s (i+1)=if VD r.ks=true then x else match x.F.find? λe=>decide (e.1=r.b) with
     |none=>{x with F:=x.F++[(r.b,p)]}
     |some e=>match pB x.s e.2 with
      |none=>x
      |some q=>{x with s:=JC x.s p.1 p.2 e.2.1 e.2.2 r q,M:=x.M++[(p,e.2)]}:=esucc
    refine mE (by rw[decide_eq_false (λz=>nomatch z)];rfl) ⟨r.sh,rfl,dxr,_,g1,KH ∅,_,r,rfl,hv2,λk hk=>ifi.tri k (hkm k hk),⋯,λH7 s7=>⟨_,rfl,?_⟩⟩;cases hb:VD r.ks with
    |true=>
     rw[hb,if_pos rfl] at esucc;exact wF rfl (stay esucc H7 s7)
    |false=>
     rw[hb,if_neg (by decide)] at esucc;have hGd7:=s7 _ _ hGd;have etup:r.b.map V.int=(ZD r.b).map kV:=by unfold ZD;rw[List.map_map];rfl
     refine mE rfl ⟨.inr ⟨_,.inl hGd7⟩,r.sh,rfl,_,dxr,_,s7 _ _ g1,T.An,T.Au,_,EN,r.bx,rfl,_,.inl ⟨kA.of (s7 _ _ g2),λtp htp=>?_⟩⟩;obtain⟨b8,c8⟩:=FB (o:=.tup (r.b.map V.int)) htp;have s8:=s7.trans b8;have hGd8:=b8 _ _ hGd7;have hkl:=Paired.length hPd;have hil:=(List.getElem?_eq_some_iff.mp hp).1;have hsl:(spA s).length<=1280:=by
      unfold spA;rw[List.length_append,List.length_map,List.length_map,List.length_range,List.length_range];have:=hS.len;omega
     have hfl:=ifi.fl;have fd:=HJ hPd (b:=r.b);have ht8:=s8 _ _ ht;have hgz:g≠z.p:=λe=>by rw[e,h1] at hg0;cases hg0
     have hg4:g∉z.four:=hS.nf hg0;have hlz:l≠z.p:=λe=>by rw[e,h1] at hl0;cases hl0
     have hl4:l∉z.four:=hS.nf hl0;refine⟨kvs,hGd8,ZD r.b,by rw[etup],⋯,λv hv=>?_,λhv=>?_⟩
     ·cases e2:x.F.find? λe=>decide (e.1=r.b) with
      |none=>rw[e2] at fd;have fd:xB kvs (ZD r.b)=none:=fd;rw[hv] at fd;cases fd
      |some e=>
       rw[e2] at fd esucc;obtain⟨v',fd1,⟨t',rfl,ht'⟩,fd3⟩:=fd;rw[hv] at fd1;obtain rfl:=Option.some.inj fd1;have heF:=List.mem_of_find?_eq_some e2;obtain⟨⟨q0,hq0,hqb,hqn⟩,a9,ha9,e9⟩:=ifi.first e heF;have hne:¬(p.1=e.2.1/\p.2=e.2.2):=λz=>by
        have ep:e.2=p:=Prod.ext z.1.symm z.2.symm;rw[ep] at e9;obtain⟨y1,y2⟩:=List.getElem?_eq_some_iff.mp e9;obtain⟨y3,y4⟩:=List.getElem?_eq_some_iff.mp hp;exact (List.pairwise_iff_getElem.mp (TN (s:=s))) a9 i y1 y3 ha9 (y2.trans y4.symm)
       have esucc:NA s (i+1)={x with s:=JC x.s p.1 p.2 e.2.1 e.2.2 r q0,M:=x.M++[(p,e.2)]}:=by
        rw[esucc];show (match pB x.s e.2 with|none=>x|some q=>_)=_;rw[hq0]
       have ht8':=s8 _ _ ht';refine⟨true,kD (yK e.2),YM ht8',kD (yK p),YM ht8,WO _ _,by rw[XO];omega,?_⟩;rw[VO,decide_eq_false (λz=>hne (by have:=YZ z;rw[this];exact⟨rfl,rfl⟩))];have hqm:q0∈JA x.s:=by
        rw[jD];have:=ME hq0;cases e9:e.2.1 with
        |true=>rw[e9] at this;exact .inl (List.mem_of_getElem? this)
        |false=>rw[e9] at this;exact .inr (List.mem_of_getElem? this)
       have pm:=KQ (r:=r) ho (ME hq0) hne;have hal:∀y∈JA (JC x.s p.1 p.2 e.2.1 e.2.2 r q0),∃y0∈JA x.s,y.hd=y0.hd/\y.bx=y0.bx:=λy hy=>by
        rcases List.mem_cons.mp (pm.mem_iff.mpr (List.mem_cons_of_mem _ (List.mem_cons_of_mem _ hy))) with e9|e9
        ·exact⟨q0,hqm,by rw[e9];rfl,by rw[e9];rfl⟩
        ·exact⟨y,e9,rfl,rfl⟩
       have hq1:q0∈JA (x.s.put p.1 p.2 none):=by
        have h9:=(xK (s:=x.s) (o:=none) (f:=e.2.1) (j:=e.2.2) (f':=p.1) (j':=p.2) (λz=>hne ⟨z.1.symm,z.2.symm⟩)).trans (ME hq0);rw[jD];cases e8:e.2.1 with
        |true=>rw[e8] at h9;exact .inl (List.mem_of_getElem? h9)
        |false=>rw[e8] at h9;exact .inr (List.mem_of_getElem? h9)
       have few1:∀y∈JA x.s,y.ks.length < 640:=λy hy=>by
        have:=ifi.few y.b;have h9:y.ks.length<=(((JA x.s).filter λu=>decide (u.b=y.b)).flatMap Sh.ks).length:=by
         have hm:y∈(JA x.s).filter λu=>decide (u.b=y.b):=List.mem_filter.mpr ⟨hy,decide_eq_true rfl⟩;obtain⟨l1,l2,e9⟩:=List.append_of_mem hm;rw[e9,List.flatMap_append,List.flatMap_cons,List.length_append,List.length_append];omega
        omega
       have two:(r.ks++q0.ks).Nodup/\r.ks.length+q0.ks.length < 1280:=by
        have p1:=((JQ (r':=r) ho).1.flatMap_right Sh.ks).nodup_iff.mp ifi.nd;rw[List.flatMap_cons] at p1;obtain⟨m1,m2,m3⟩:=List.nodup_append.mp p1;obtain⟨l1,l2,e9⟩:=List.append_of_mem hq1;rw[e9,List.flatMap_append,List.flatMap_cons] at m2 m3;obtain⟨_,m4,_⟩:=List.nodup_append.mp m2;obtain⟨m5,_,_⟩:=List.nodup_append.mp m4;refine⟨List.nodup_append.mpr ⟨m1,m5,λa ha b hb=>m3 a ha b (List.mem_append_right _ (List.mem_append_left _ hb))⟩,?_⟩;have:=few1 q0 hqm;omega
       refine mE rfl ⟨dx2,_,s8 _ _ h2,EC ∅,z,x.s,t,t',p.1,e.2.1,p.2,e.2.2,r,q0,rfl,iss.same s8,iap,itw,ht8,ht8',ho,ME hq0,hne,⟨hlen,(List.nodup_append.mp two.1).1,λk hk=>ifi.tri k (hkm k hk)⟩,(λk hk hk2=>(List.nodup_append.mp two.1).2.2 k hk k hk2 rfl),⋯,λH9 a1 a2 a3 a4 a5=>?_⟩;have hqd:∃w9,upd H7 tp (.tup (r.b.map V.int)) q0.hd=some (.dT w9):=by
        obtain⟨w9,h9⟩:=iss.hd q0.hd (by unfold oE;exact XE.mpr ⟨q0,yQ.mp hqm,rfl⟩);exact⟨w9,s8 _ _ h9⟩
       obtain⟨w9,hqd⟩:=hqd;have hz8:=s8 _ _ h2;have kt9:∀{c us},upd H7 tp (.tup (r.b.map V.int)) c=some (.tup us)->H9 c=some (.tup us):=λhc=>a4 _ _ hc (λe=>by rw[e,hz8] at hc;cases hc) (λe=>by obtain⟨vs,h9⟩:=(iss.same s8).fours _ e;rw[hc] at h9;cases h9) (λe=>by rw[e,hqd] at hc;cases hc);have kl9:∀{c us},upd H7 tp (.tup (r.b.map V.int)) c=some (.lst us)->c≠z.p->c∉z.four->H9 c=some (.lst us):=λhc n1 n2=>a4 _ _ hc n1 n2 (λe=>by rw[e,hqd] at hc;cases hc);have hg9:=kl9 (s8 _ _ hGg) hgz hg4;have hl9:=kl9 (s8 _ _ hGl) hlz hl4;have hd9:H9 d=some (.dT kvs):=a4 _ _ hGd8 (λe=>by rw[e,hz8] at hGd8;cases hGd8) (λe=>by obtain⟨vs,h9⟩:=(iss.same s8).fours _ e;rw[hGd8] at h9;cases h9) (λe=>(ihd q0 hqm).1 e.symm);have hyl:=Paired.length hPg;have hml:=ifi.ml;refine⟨.inl ⟨rfl,_,kA.of hg9⟩,λtq htq=>?_⟩;obtain⟨b10,c10⟩:=FB (o:=.tup [V.ref t,V.ref t']) htq;have hg10:=b10 _ _ hg9;have kp:∀{c u},H9 c=some u->(∀us,u≠.lst us)->upd (upd H9 tq (.tup [V.ref t,V.ref t'])) g (.lst (ys++[V.ref tq])) c=some u:=λ{c u} hc hn=>by rw[oA (bC (b10 _ _ hc) hg10 (λe=>hn _ e))];exact b10 _ _ hc
       have c11:upd (upd H9 tq (.tup [V.ref t,V.ref t'])) g (.lst (ys++[V.ref tq])) tq=some (.tup [V.ref t,V.ref t']):=by rw[oA (bC c10 hg10 (λz=>nomatch z))];exact c10
       refine⟨ys,hg10,⋯,?_⟩;refine⟨by rw[esucc];exact (a1.same b10).lup hg10 hg4 (λy hy=>by obtain⟨y0,h8,_,h9⟩:=hal y hy;rw[h9];exact (ihd y0 h8).2),by rw[esucc];exact a2,by rw[esucc];exact a3,by rw[esucc];exact λy hy=>(by obtain⟨y0,h8,h9,h10⟩:=hal y hy;rw[h9,h10];exact ihd y0 h8),⟨kvs,kp hd9 (λ_ z=>nomatch z),?_⟩,⟨_,OA,?_⟩,⟨?_,?_⟩,fn,?_,?_⟩
       ·rw[esucc];exact Paired.mapP hPd λ_ _ ⟨e1,a,e2,e3⟩=>⟨e1,a,e2,kp (kt9 (s8 _ _ e3)) (λ_ z=>nomatch z)⟩
       ·rw[esucc];exact JE (Paired.mapP hPg λ_ _ h=>h.to λc us hc=>kp (kt9 (s8 _ _ hc)) (λ_ z=>nomatch z)) ⟨tq,t,t',rfl,c11,⟨t,rfl,kp (kt9 ht8) (λ_ z=>nomatch z)⟩,⟨t',rfl,kp (kt9 ht8') (λ_ z=>nomatch z)⟩⟩
       ·rw[oA hgl];exact b10 _ _ hl9
       ·exact Paired.mapP hPl λ_ _ ⟨a,e1,e3⟩=>⟨a,e1,kp (kt9 (s8 _ _ e3)) (λ_ z=>nomatch z)⟩
       ·refine λc o hc n1 n2 n3=>?_;have hc6:=ikd c o hc n1 n2 n3;have hc9:=a4 c o (s8 _ _ hc6) n1 n2 (λe=>by rw[e] at hc6;have:=s8 _ _ hc6;rw[hqd] at this;exact n3 _ (Option.some.inj this).symm);rw[oA (λe=>by rw[e,hg0] at hc;cases hc)];exact b10 _ _ hc9
       ·intro c hc;by_cases e9:c=g
        ·rw[e9,OA] at hc;cases hc
        ·rw[oA e9] at hc;exact idm c (NB s8 (a5 c (NB b10 hc)))
     ·cases e2:x.F.find? λe=>decide (e.1=r.b) with
      |some e=>rw[e2] at fd;obtain⟨v',fd1,_⟩:=fd;rw[hv] at fd1;cases fd1
      |none=>
       rw[e2] at esucc;have esucc:NA s (i+1)={x with F:=x.F++[(r.b,p)]}:=esucc;have ep:YB kvs (ZD r.b) (.ref t)=kvs++[(ZD r.b,.ref t)]:=AW hv;rw[ep];have kp:∀{c u},upd H7 tp (.tup (r.b.map V.int)) c=some u->(∀us,u≠.dT us)->upd (upd H7 tp (.tup (r.b.map V.int))) d (.dT (kvs++[(ZD r.b,.ref t)])) c=some u:=λ{c u} hc hn=>by rw[oA (λe=>by rw[e,hGd8] at hc;exact hn _ (Option.some.inj hc).symm)];exact hc
       refine⟨true,kD (yK p),YM (kp ht8 (λ_ z=>nomatch z)),kD (yK p),YM (kp ht8 (λ_ z=>nomatch z)),WO _ _,by rw[XO];omega,?_⟩;rw[VO,decide_eq_true rfl];refine wF rfl ?_;refine⟨by rw[esucc];exact (iss.same s8).dup hGd8 (λr hr=>(ihd r hr).1),by rw[esucc];exact iap,by rw[esucc];exact itw,by rw[esucc];exact ihd,⟨_,OA,?_⟩,⟨ys,kp (s8 _ _ hGg) (λ_ z=>nomatch z),?_⟩,⟨kp (s8 _ _ hGl) (λ_ z=>nomatch z),Paired.mapP hPl λ_ _ ⟨a,e1,e3⟩=>⟨a,e1,kp (s8 _ _ e3) (λ_ z=>nomatch z)⟩⟩,fn,ikd.trans (λc o hc _ _ hn=>kp (s8 _ _ hc) hn),λc hc=>idm c ?_⟩
       ·rw[esucc];exact JE (Paired.mapP hPd λ_ _ ⟨e1,a,e2,e3⟩=>⟨e1,a,e2,kp (s8 _ _ e3) (λ_ z=>nomatch z)⟩) ⟨rfl,t,rfl,kp ht8 (λ_ z=>nomatch z)⟩
       ·rw[esucc];exact Paired.mapP hPg λ_ _ h=>h.to λc us hc=>kp (s8 _ _ hc) (λ_ z=>nomatch z)
       ·by_cases e9:c=d
        ·rw[e9,OA] at hc;cases hc
        ·rw[oA e9] at hc;exact NB s8 hc
  ·rintro⟨v3,v4,v5,rfl,hI⟩;obtain⟨ys,hGg,hPg⟩:=hI.gg;rw[Paired.length hI.ll.2] at *;rfl';exact q _ g ys hI.ss hI.ap hI.tw hI.fi hg0 hGg hPg hI.kd hI.dm
noncomputable abbrev Lb:=Addr->Nat
noncomputable def lab (L:Lb) (p:Addr) (k:Nat):Lb:=λc=>if c=p then k else L c
theorem rD {L:Lb} {p:Addr} {k:Nat}:lab L p k p=k:=if_pos rfl
theorem KC {L:Lb} {p c:Addr} {k:Nat} (h:c≠p):lab L p k c=L c:=if_neg h
noncomputable def Lv (L:Lb) (H:Hp):Prop:=∀c,L c≠0->∃us,H c=some (.lst us)
noncomputable def Lx (L L':Lb) (H:Hp):Prop:=∀c,L' c=L c\/H c=none
noncomputable def Dm (H H':Hp):Prop:=∀c,H' c=none->H c=none
noncomputable def TF (o:HO):Prop:=∃us,o=.tup us\/∃p,o=.frz p (.lst us)
theorem LJ {us:List V}:TF (.tup us):=⟨us,.inl rfl⟩
theorem Lv.zero {L:Lb} {H:Hp} (h:Lv L H) {c:Addr} {o:HO} (hc:H c=some o) (ho:∀us,o≠.lst us):L c=0:=Decidable.byContradiction λe=>by
 obtain⟨us,h9⟩:=h c e;rw[hc] at h9;exact ho us (Option.some.inj h9)
theorem YH {o:HO} (h:TF o):∀us,o≠.lst us:=λus z=>by
 obtain⟨ws,h|⟨p,h⟩⟩:=h<;>(rw[z] at h;cases h)
theorem Lv.lx {L L':Lb} {H:Hp} (h:Lv L H) (x:Lx L L' H) {c:Addr} (hc:L c≠0):L' c=L c:=by
 rcases x c with e|e
 ·exact e
 ·obtain⟨us,h9⟩:=h c hc;rw[e] at h9;cases h9
structure Mv (S:List Nat) (L L':Lb) (H H':Hp):Prop where
 lx:Lx L L' H
 kw:∀c o,H c=some o->L c∉S->H' c=some o
 dm:Dm H H'
theorem Lx.at {L L':Lb} {H:Hp} (x:Lx L L' H) {c:Addr} {o:HO} (h:H c=some o):L' c=L c:=by
 rcases x c with e|e
 ·exact e
 ·rw[e] at h;cases h
theorem Dm.some {H H':Hp} (d:Dm H H') {c:Addr} {o:HO} (h:H c=some o):∃o',H' c=some o':=by
 cases e:H' c with
 |none=>rw[d c e] at h;cases h
 |some o'=>exact⟨o',rfl⟩
theorem Mv.of {S:List Nat} {L:Lb} {H H':Hp} (s:iA H H'):Mv S L L H H':=⟨λ_=>.inl rfl,λ_ _ h _=>s _ _ h,λ_ h=>NB s h⟩
theorem Lx.trans {L L1 La2:Lb} {H H1:Hp} (a:Lx L L1 H) (d:Dm H H1) (b:Lx L1 La2 H1):Lx L La2 H:=λc=>by
 rcases a c with e|e
 ·rcases b c with e2|e2
  ·exact .inl (e2.trans e)
  ·exact .inr (d c e2)
 ·exact .inr e
theorem Mv.trans {S:List Nat} {L L1 La2:Lb} {H H1 H2:Hp} (a:Mv S L L1 H H1) (b:Mv S L1 La2 H1 H2):Mv S L La2 H H2:=
 ⟨a.lx.trans a.dm b.lx,λc o h n=>b.kw c o (a.kw c o h n) (by rw[a.lx.at h];exact n),λc h=>a.dm c (b.dm c h)⟩
theorem Mv.sub {S S':List Nat} {L L':Lb} {H H':Hp} (a:Mv S L L' H H') (h:∀k∈S,k∈S'):Mv S' L L' H H':=⟨a.lx,λc o hc n=>a.kw c o hc λz=>n (h _ z),a.dm⟩
theorem Mv.new {S:List Nat} {L:Lb} {H:Hp} {p:Addr} {k:Nat} {o:HO} (h:H p=none):Mv S L (lab L p k) H (upd H p o):=
 ⟨λc=>by
  by_cases e:c=p
  ·rw[e];exact .inr h
  ·exact .inl (KC e),λc o' hc _=>by rw[oA (BB hc h)];exact hc,λc hc=>NB (HB iB h) hc⟩
theorem Mv.set {S:List Nat} {L:Lb} {H:Hp} {a:Addr} {us us':List V} (h:H a=some (.lst us)) (hs:L a∈S):Mv S L L H (upd H a (.lst us')):=
 ⟨λ_=>.inl rfl,λc o hc n=>by rw[oA (λe=>n (by rw[e];exact hs))];exact hc,λc hc=>by
  by_cases e:c=a
  ·rw[e,OA] at hc;cases hc
  ·rw[oA e] at hc;exact hc⟩
theorem Lv.same {L:Lb} {H H':Hp} (h:Lv L H) (s:iA H H'):Lv L H':=λc hc=>let ⟨us,e⟩:=h c hc;⟨us,s _ _ e⟩
theorem Lv.new {L:Lb} {H:Hp} {p:Addr} {k:Nat} {us:List V} (l:Lv L H) (h:H p=none):Lv (lab L p k) (upd H p (.lst us)):=λc hc=>by
 by_cases e:c=p
 ·rw[e,OA];exact⟨_,rfl⟩
 ·rw[KC e] at hc;rw[oA e];exact l c hc
theorem Lv.set {L:Lb} {H:Hp} {a:Addr} {us':List V} (l:Lv L H):Lv L (upd H a (.lst us')):=λc hc=>by
 by_cases e:c=a
 ·rw[e,OA];exact⟨_,rfl⟩
 ·rw[oA e];exact l c hc
structure Zv (S:List Nat) (L L':Lb) (H H':Hp):Prop where
 lx:Lx L L' H
 kz:∀c o,H c=some o->(TF o\/(L c≠0/\L c∉S))->H' c=some o
 dm:Dm H H'
theorem Zv.of {S:List Nat} {L:Lb} {H H':Hp} (s:iA H H'):Zv S L L H H':=⟨λ_=>.inl rfl,λ_ _ h _=>s _ _ h,λ_ h=>NB s h⟩
theorem Mv.zv {S:List Nat} {L L':Lb} {H H':Hp} (a:Mv S L L' H H') (l:Lv L H) (h0:0∉S):Zv S L L' H H':=⟨a.lx,λc o hc n=>a.kw c o hc (by
 rcases n with n|n
 ·rw[l.zero hc (YH n)];exact h0
 ·exact n.2),a.dm⟩
theorem Zv.trans {S:List Nat} {L L1 La2:Lb} {H H1 H2:Hp} (a:Zv S L L1 H H1) (b:Zv S L1 La2 H1 H2):Zv S L La2 H H2:=
 ⟨a.lx.trans a.dm b.lx,λc o h n=>b.kz c o (a.kz c o h n) (n.imp id λn=>by rw[a.lx.at h];exact n),λc h=>a.dm c (b.dm c h)⟩
theorem Zv.sub {S S':List Nat} {L L':Lb} {H H':Hp} (a:Zv S L L' H H') (h:∀k∈S,k∈S'):Zv S' L L' H H':=⟨a.lx,λc o hc n=>a.kz c o hc (n.imp id λn=>⟨n.1,λz=>n.2 (h _ z)⟩),a.dm⟩
theorem Zv.tup {S:List Nat} {L L':Lb} {H H':Hp} (a:Zv S L L' H H') {c:Addr} {us:List V} (h:H c=some (.tup us)):H' c=some (.tup us):=a.kz _ _ h (.inl LJ)
theorem Zv.lst {S:List Nat} {L L':Lb} {H H':Hp} (a:Zv S L L' H H') {c:Addr} {us:List V} {k:Nat} (h:H c=some (.lst us)) (hk:L c=k) (h0:k≠0) (hs:k∉S):H' c=some (.lst us)/\L' c=k:=⟨a.kz _ _ h (.inr (by rw[hk];exact⟨h0,hs⟩)),by rw[a.lx.at h];exact hk⟩
theorem Zv.ks {C P S:Addr} {z:Ss} {s s':St} {L:Lb} {H H':Hp} (hS:lA C P S H z s) (hS':lA C P S H' z s') (k:Kd z H H') (l0:∀c∈z.four,L c=0) (l:Lv L H) (dm:Dm H H'):Zv [] L L H H':=⟨λ_=>.inl rfl,λc o hc n=>(by
 obtain⟨dx,h1⟩:=hS.me;refine k c o hc (λe=>?_) (λe=>?_) (λkvs e=>?_)
 ·rcases n with n|n
  ·rw[e,h1] at hc;obtain⟨ws,h|⟨p,h⟩⟩:=n<;>(rw[<-Option.some.inj hc] at h;cases h)
  ·obtain⟨us,h9⟩:=l c n.1;rw[e,h1] at h9;cases h9
 ·rcases n with n|n
  ·obtain⟨us,h9⟩:=hS.fours c e;rw[hc] at h9;exact YH n us (Option.some.inj h9)
  ·exact n.1 (l0 c e)
 ·rcases n with n|n
  ·obtain⟨ws,h|⟨p,h⟩⟩:=n<;>(rw[e] at h;cases h)
  ·obtain⟨us,h9⟩:=l c n.1;rw[hc,e] at h9;cases h9),dm⟩
theorem tM {S:Addr} {H H':Hp} {vs:List V} {rows:List (Option Sh)} (h:WB S H vs rows) (k:∀v r,r∈rows->XA S H v r->XA S H' v r):WB S H' vs rows:=by
 induction h with
 |nil=>exact .nil
 |@cons x y _ _ h t ih=>exact .cons (k _ _ (List.mem_cons_self ..) h) (ih λv r hr=>k v r (List.mem_cons_of_mem _ hr))
theorem lA.mv {C P S:Addr} {z:Ss} {s:St} {L L':Lb} {N:List Nat} {H H':Hp} (h:lA C P S H z s) (m:Mv N L L' H H') (l:Lv L H) (h0:0∉N) (l0:∀c∈z.four,L c=0) (lb:∀r,some r∈s.fr\/some r∈s.sr->L r.bx=0):lA C P S H' z s:=by
 obtain⟨dx,h1⟩:=h.me;obtain⟨dx1,vs1,f1,f2,f3,f4,f5⟩:=id h.fr;obtain⟨dx2,vs2,g1,g2,g3,g4,g5⟩:=id h.sl;have kn:∀{c o},H c=some o->(∀us,o≠.lst us)->H' c=some o:=λhc hn=>m.kw _ _ hc (by rw[l.zero hc hn];exact h0);have kl:∀{c o},H c=some o->L c=0->H' c=some o:=λhc hn=>m.kw _ _ hc (by rw[hn];exact h0);have ks:∀{v:V} {r:Option Sh},(∀q,r=some q->L q.bx=0)->XA S H v r->XA S H' v r:=λ{v r} hb hv=>by
  cases r with
  |none=>exact hv
  |some r=>
   obtain⟨a,⟨d,h1⟩,h2,h3⟩:=hv;exact⟨a,⟨d,kn h1 λ_ z=>nomatch z⟩,kl h2 (hb r rfl),kn h3 λ_ z=>nomatch z⟩
 have kp:∀{vs:List V} {rows:List (Option Sh)},WB S H vs rows->(∀r,some r∈rows->L r.bx=0)->WB S H' vs rows:=λhl hb=>tM hl λv r hr h=>ks (λq e=>hb q (by rw[<-e];exact hr)) h;exact⟨⟨dx,kn h1 λ_ z=>nomatch z⟩,⟨dx1,vs1,kn f1 (λ_ z=>nomatch z),kl f2 (l0 _ (uF (f:=true))),kp f3 (λr hr=>lb r (.inl hr)),kl f4 (l0 _ (NH (f:=true))),f5⟩,⟨dx2,vs2,kn g1 (λ_ z=>nomatch z),kl g2 (l0 _ (uF (f:=false))),kp g3 (λr hr=>lb r (.inr hr)),kl g4 (l0 _ (NH (f:=false))),g5⟩,h.n4,h.bx,h.len,h.hh⟩
theorem Ks.dm {C P S:Addr} {z:Ss} {s s':St} {H G:Hp} (k:Ks z H G) (h:lA C P S H z s) (h':lA C P S G z s'):Dm H G:=λ_ hc=>k.was h h' hc
noncomputable def RF (H:Hp) (L:Lb) (v:V):Option Sh->Option Nat->Prop
 |none,_=>v=.non
 |some r,o=>v=.ref r.sh/\H r.sh=some (.lst [.ref r.bx,.ref r.hd,oV o])/\H r.bx=some (.lst (r.b.map V.int))/\FD H r.hd r.ks/\L r.sh=2/\L r.bx=3/\L r.hd=4
noncomputable def RS (H:Hp) (L:Lb) (B:Nat->List Int) (v:V):Option Sh->Option Nat->Prop
 |some r,_=>RF H L v (some r) none
 |none,none=>v=.non
 |none,some i=>∃a ba ha,v=.ref a/\H a=some (.lst [.ref ba,.ref ha,.int (i:Int)])/\H ba=some (.lst ((B i).map V.int))/\H ha=some (.lst [])/\L a=2/\L ba=3/\L ha=4
theorem FD.to {H H':Hp} {l:Addr} {ks:List (List Key)} (h:FD H l ks) (k:∀us,H l=some (.lst us)->H' l=some (.lst us)) (kt:∀c us,H c=some (.tup us)->H' c=some (.tup us)):FD H' l ks:=let ⟨us,h1,h2⟩:=h;⟨us,k _ h1,Paired.mapP h2 λ_ _ ⟨a,e,q⟩=>⟨a,e,kt _ _ q⟩⟩
structure Kr (L L':Lb) (H H':Hp):Prop where
 kt:∀c us,H c=some (.tup us)->H' c=some (.tup us)
 k3:∀c us,H c=some (.lst us)->L c=3\/L c=4->H' c=some (.lst us)
 kl:∀c,L c≠0->L' c=L c
theorem RF.kr {H H':Hp} {L L':Lb} {v:V} (k:Kr L L' H H'):∀{r:Option Sh} {o:Option Nat},RF H L v r o->(∀q,r=some q->H' q.sh=H q.sh)->RF H' L' v r o
 |none,_,h,_=>h
 |some r,o,⟨e,h1,h2,h3,l1,l2,l3⟩,hr=>⟨e,(hr r rfl).trans h1,k.k3 _ _ h2 (.inl l2),h3.to (λus hu=>k.k3 _ _ hu (.inr l3)) k.kt,by rw[k.kl _ (by rw[l1];decide)];exact l1,by rw[k.kl _ (by rw[l2];decide)];exact l2,by rw[k.kl _ (by rw[l3];decide)];exact l3⟩
theorem RS.kr {H H':Hp} {L L':Lb} {B:Nat->List Int} {v:V} (k:Kr L L' H H'):∀{r:Option Sh} {o:Option Nat},RS H L B v r o->(∀a,v=.ref a->H' a=H a)->RS H' L' B v r o
 |some r,_,h,hr=>RF.kr (r:=some r) (o:=none) k (show RF H L v (some r) none from h) λq e=>by cases e;exact hr _ (show RF H L v (some r) none from h).1
 |none,none,h,_=>h
 |none,some i,⟨a,ba,ha,e,h1,h2,h3,l1,l2,l3⟩,hr=>⟨a,ba,ha,e,(hr a e).trans h1,k.k3 _ _ h2 (.inl l2),k.k3 _ _ h3 (.inr l3),by rw[k.kl _ (by rw[l1];decide)];exact l1,by rw[k.kl _ (by rw[l2];decide)];exact l2,by rw[k.kl _ (by rw[l3];decide)];exact l3⟩
structure Lq (H:Hp) (L:Lb) (pl fl sl:Addr) (h:Nat) (fr sr:List (Option Sh)) (tf ts:List (Option Nat)) (B:Nat->List Int):Prop where
 hp:H pl=some (.lst [.ref fl,.ref sl,.int (h:Int)])
 hf:∃us,H fl=some (.lst us)/\us.length=fr.length/\∀(i:Nat) r o,fr[i]?=some r->tf[i]?=some o->∃v,us[i]?=some v/\RF H L v r o
 hs:∃us,H sl=some (.lst us)/\us.length=sr.length/\∀(j:Nat) r o,sr[j]?=some r->ts[j]?=some o->∃v,us[j]?=some v/\RS H L B v r o
 l1:L pl=1/\L fl=1/\L sl=1
 ne:pl≠fl/\pl≠sl/\fl≠sl
 ln:tf.length=fr.length/\ts.length=sr.length
 lv:Lv L H
section
variable {H H':Hp} {L L':Lb} {pl fl sl:Addr} {h:Nat} {fr sr:List (Option Sh)} {tf ts:List (Option Nat)} {B:Nat->List Int}
theorem RS.lab {v:V} {r:Option Sh} {o:Option Nat} (h:RS H L B v r o) {a:Addr} (e:v=.ref a):L a=2:=by
 cases r with
 |some r=>obtain⟨e2,_,_,_,l1,_⟩:=h;rw[e] at e2;cases e2;exact l1
 |none=>
  cases o with
  |none=>rw[e] at h;cases h
  |some i=>obtain⟨b,ba,ha,e2,_,_,_,l1,_⟩:=h;rw[e] at e2;cases e2;exact l1
theorem Lq.zs {N:List Nat} (q:Lq H L pl fl sl h fr sr tf ts B) (z:Zv N L L' H H') (hN:∀k∈N,4 < k) (lv:Lv L' H'):Lq H' L' pl fl sl h fr sr tf ts B:=by
 have kl0:∀c us,H c=some (.lst us)->L c≠0->L c<=4->H' c=some (.lst us):=λc us hc hl h4=>z.kz _ _ hc (.inr ⟨hl,λz=>by have:=hN _ z;omega⟩);have kl:∀c us,H c=some (.lst us)->(L c=1\/L c=2\/L c=3\/L c=4)->H' c=some (.lst us):=λc us hc hl=>kl0 c us hc ⋯ ⋯;have kr:Kr L L' H H':=⟨λc us hc=>z.tup hc,λc us hc hl=>kl c us hc ⋯,λc hc=>q.lv.lx z.lx hc⟩
 have k2:∀c,L c=2->H' c=H c:=λc hc=>by
  obtain⟨us,e⟩:=q.lv c (by rw[hc];decide);rw[e];exact kl _ _ e ⋯
 obtain⟨us,h1,h2,h3⟩:=q.hf;obtain⟨ws,g1,g2,g3⟩:=q.hs;obtain⟨l1,l2,l3⟩:=q.l1;have n1:∀{c},L c=1->L c≠0:=λe=>by rw[e];decide
 exact⟨kl _ _ q.hp (.inl l1),⟨us,kl _ _ h1 (.inl l2),h2,λi r o a b=>let ⟨v,e,f⟩:=h3 i r o a b;⟨v,e,f.kr kr λs e=>by subst e;exact k2 _ f.2.2.2.2.1⟩⟩,⟨ws,kl _ _ g1 (.inl l3),g2,λi r o a b=>let ⟨v,e,f⟩:=g3 i r o a b;⟨v,e,f.kr kr λa e=>k2 _ (f.lab e)⟩⟩,⟨(kr.kl _ (n1 l1)).trans l1,(kr.kl _ (n1 l2)).trans l2,(kr.kl _ (n1 l3)).trans l3⟩,q.ne,q.ln,lv⟩
theorem Lq.zv (q:Lq H L pl fl sl h fr sr tf ts B) (z:Zv [] L L' H H') (lv:Lv L' H'):Lq H' L' pl fl sl h fr sr tf ts B:=q.zs z (λ_ h=>by cases h) lv
theorem Lq.same (q:Lq H L pl fl sl h fr sr tf ts B) (s:iA H H'):Lq H' L pl fl sl h fr sr tf ts B:=q.zv (Zv.of s) (q.lv.same s)
theorem Lq.new (q:Lq H L pl fl sl h fr sr tf ts B) {p:Addr} {k:Nat} {us:List V} (hp:H p=none):Lq (upd H p (.lst us)) (lab L p k) pl fl sl h fr sr tf ts B:=q.zv ((Mv.new hp).zv q.lv (by simp)) (q.lv.new hp)
theorem Kr.one {a:Addr} {us us':List V} (ha:H a=some (.lst us)) (la:L a=1):Kr L L H (upd H a (.lst us')):=⟨λc ws hc=>by rw[oA (bC hc ha (λz=>nomatch z))];exact hc,λc ws hc hl=>by rw[oA (λe=>by rw[e,la] at hl;omega)];exact hc,λ_ _=>rfl⟩
theorem Lq.hand (q:Lq H L pl fl sl h fr sr tf ts B) {x:Nat}:Lq (upd H pl (.lst [.ref fl,.ref sl,.int (x:Int)])) L pl fl sl x fr sr tf ts B:=by
 obtain⟨us,h1,h2,h3⟩:=q.hf;obtain⟨ws,g1,g2,g3⟩:=q.hs;obtain⟨l1,l2,l3⟩:=q.l1;obtain⟨n1,n2,n3⟩:=q.ne;have kr:Kr L L H (upd H pl (.lst [.ref fl,.ref sl,.int (x:Int)])):=Kr.one q.hp l1;have k2:∀c,L c=2->upd H pl (.lst [.ref fl,.ref sl,.int (x:Int)]) c=H c:=λc hc=>oA (λe=>by rw[e,l1] at hc;cases hc);exact⟨OA,⟨us,by rw[oA (Ne.symm n1)];exact h1,h2,λi r o a b=>let ⟨v,e,f⟩:=h3 i r o a b;⟨v,e,f.kr kr λs e=>by subst e;exact k2 _ f.2.2.2.2.1⟩⟩,⟨ws,by rw[oA (Ne.symm n2)];exact g1,g2,λi r o a b=>let ⟨v,e,f⟩:=g3 i r o a b;⟨v,e,f.kr kr λa e=>k2 _ (f.lab e)⟩⟩,q.l1,q.ne,q.ln,q.lv.set⟩
theorem Lq.slot (q:Lq H L pl fl sl h fr sr tf ts B) {us:List V} (hu:H sl=some (.lst us)) {j:Nat} {v:V} {r:Option Sh} {o:Option Nat} (hv:RS H L B v r o):Lq (upd H sl (.lst (us.set j v))) L pl fl sl h fr (sr.set j r) tf (ts.set j o) B:=by
 obtain⟨us0,h1,h2,h3⟩:=q.hf;obtain⟨ws,g1,g2,g3⟩:=q.hs;obtain rfl:us=ws:=by rw[hu] at g1;cases g1;rfl
 obtain⟨l1,l2,l3⟩:=q.l1;obtain⟨n1,n2,n3⟩:=q.ne;have kr:Kr L L H (upd H sl (.lst (us.set j v))):=Kr.one hu l3;have k2:∀c,L c=2->upd H sl (.lst (us.set j v)) c=H c:=λc hc=>oA (λe=>by rw[e,l3] at hc;cases hc);refine⟨by rw[oA n2];exact q.hp,⟨us0,by rw[oA n3];exact h1,h2,λi r o a b=>let ⟨v,e,f⟩:=h3 i r o a b;⟨v,e,f.kr kr λs e=>by subst e;exact k2 _ f.2.2.2.2.1⟩⟩,⟨_,OA,by rw[List.length_set,List.length_set];exact g2,λi r' o' a b=>?_⟩,q.l1,q.ne,by rw[List.length_set,List.length_set];exact q.ln,q.lv.set⟩;rw[List.getElem?_set] at a b;have hln:=q.ln.2;by_cases e:j=i
 ·subst e;rw[if_pos rfl] at a b
  split at a
  ·rename_i hj;rw[if_pos ⋯] at b;obtain rfl:r=r':=Option.some.inj a;obtain rfl:o=o':=Option.some.inj b;exact⟨v,List.getElem?_set_self ⋯,hv.kr kr λa e=>k2 _ (hv.lab e)⟩
  ·cases a
 ·rw[if_neg e] at a b;obtain⟨v',e',f⟩:=g3 i r' o' a b;exact⟨v',by rw[List.getElem?_set,if_neg e];exact e',f.kr kr λa e=>k2 _ (f.lab e)⟩
theorem Lq.frame (q:Lq H L pl fl sl h fr sr tf ts B) {us:List V} (hu:H fl=some (.lst us)) {j:Nat} {v:V} {r:Option Sh} {o:Option Nat} (hv:RF H L v r o):Lq (upd H fl (.lst (us.set j v))) L pl fl sl h (fr.set j r) sr (tf.set j o) ts B:=by
 obtain⟨us0,h1,h2,h3⟩:=q.hf;obtain⟨ws,g1,g2,g3⟩:=q.hs;obtain rfl:us=us0:=by rw[hu] at h1;cases h1;rfl
 obtain⟨l1,l2,l3⟩:=q.l1;obtain⟨n1,n2,n3⟩:=q.ne;have kr:Kr L L H (upd H fl (.lst (us.set j v))):=Kr.one hu l2;have k2:∀c,L c=2->upd H fl (.lst (us.set j v)) c=H c:=λc hc=>oA (λe=>by rw[e,l2] at hc;cases hc);refine⟨by rw[oA n1];exact q.hp,⟨_,OA,by rw[List.length_set,List.length_set];exact h2,λi r' o' a b=>?_⟩,⟨ws,by rw[oA (Ne.symm n3)];exact g1,g2,λi r o a b=>let ⟨v,e,f⟩:=g3 i r o a b;⟨v,e,f.kr kr λa e=>k2 _ (f.lab e)⟩⟩,q.l1,q.ne,by rw[List.length_set,List.length_set];exact q.ln,q.lv.set⟩;rw[List.getElem?_set] at a b;have hln:=q.ln.1;by_cases e:j=i
 ·subst e;rw[if_pos rfl] at a b
  split at a
  ·rename_i hj;rw[if_pos ⋯] at b;obtain rfl:r=r':=Option.some.inj a;obtain rfl:o=o':=Option.some.inj b;exact⟨v,List.getElem?_set_self ⋯,hv.kr kr λs e=>by subst e;exact k2 _ hv.2.2.2.2.1⟩
  ·cases a
 ·rw[if_neg e] at a b;obtain⟨v',e',f⟩:=h3 i r' o' a b;exact⟨v',by rw[List.getElem?_set,if_neg e];exact e',f.kr kr λs e=>by subst e;exact k2 _ f.2.2.2.2.1⟩
theorem Lq.twins (q:Lq H L pl fl sl h fr sr tf ts B) {B':Nat->List Int} (hb:∀(i j:Nat),ts[j]?=some (some i)->B' i=B i):Lq H L pl fl sl h fr sr tf ts B':=by
 obtain⟨ws,g1,g2,g3⟩:=q.hs;refine⟨q.hp,q.hf,⟨ws,g1,g2,λj r o a b=>?_⟩,q.l1,q.ne,q.ln,q.lv⟩;obtain⟨v,e,f⟩:=g3 j r o a b;refine⟨v,e,?_⟩;cases r with
 |some r=>exact f
 |none=>
  cases o with
  |none=>exact f
  |some i=>obtain⟨a1,ba,ha,f1,f2,f3,f4⟩:=f;exact⟨a1,ba,ha,f1,f2,by rw[hb i j b];exact f3,f4⟩
theorem Lq.free (q:Lq H L pl fl sl h fr sr tf ts B) {tf':List (Option Nat)} (hl:tf'.length=tf.length) (ht:∀(i:Nat) s,fr[i]?=some (some s)->tf'[i]?=tf[i]?):Lq H L pl fl sl h fr sr tf' ts B:=by
 obtain⟨us,h1,h2,h3⟩:=q.hf;refine⟨q.hp,⟨us,h1,h2,λi r o a b=>?_⟩,q.hs,q.l1,q.ne,by rw[hl];exact q.ln,q.lv⟩;cases r with
 |some s=>rw[ht i s a] at b;exact h3 i _ o a b
 |none=>
  have hi:=(List.getElem?_eq_some_iff.mp b).1;obtain⟨v,e,f⟩:=h3 i none (tf[i]'⋯) a (List.getElem?_eq_getElem _);exact⟨v,e,f⟩
theorem Lq.untw (q:Lq H L pl fl sl h fr sr tf ts B) {i j:Nat} {r:Sh} (hi:fr[i]?=some (some r)) (ht:tf[i]?=some (some j)) (one:∀a:Nat,tf[a]?=some (some j)->a=i) (hk:r.ks≠[]):Lq (upd H r.sh (.lst [.ref r.bx,.ref r.hd,.non])) L pl fl sl h fr sr (tf.set i none) ts B:=by
 obtain⟨us,h1,h2,h3⟩:=q.hf;obtain⟨ws,g1,g2,g3⟩:=q.hs;obtain⟨l1,l2,l3⟩:=q.l1;obtain⟨v,e,⟨e1,f1,f2,f3,f4,f5,f6⟩⟩:=h3 i _ _ hi ht;have kr:Kr L L H (upd H r.sh (.lst [.ref r.bx,.ref r.hd,.non])):=⟨λc ws hc=>by rw[oA (bC hc f1 (λz=>nomatch z))];exact hc,λc ws hc hl=>by rw[oA (λe=>by rw[e,f4] at hl;omega)];exact hc,λ_ _=>rfl⟩
 have n1:∀{c o},L c=1->H c=some o->upd H r.sh (.lst [.ref r.bx,.ref r.hd,.non]) c=some o:=λhc ho=>by rw[oA (λe=>by rw[e,f4] at hc;cases hc)];exact ho
 refine⟨n1 l1 q.hp,⟨us,n1 l2 h1,h2,λa s o ha hb=>?_⟩,⟨ws,n1 l3 g1,g2,λa s o ha hb=>?_⟩,q.l1,q.ne,by rw[List.length_set];exact q.ln,q.lv.set⟩
 ·rw[List.getElem?_set] at hb;by_cases c:i=a
  ·subst c;rw[if_pos rfl,if_pos (List.getElem?_eq_some_iff.mp ht).1] at hb;obtain rfl:none=o:=Option.some.inj hb;rw[hi] at ha;obtain rfl:some r=s:=Option.some.inj ha;refine⟨v,e,e1,OA,kr.k3 _ _ f2 (.inl f5),f3.to (λus hu=>kr.k3 _ _ hu (.inr f6)) kr.kt,f4,f5,f6⟩
  ·rw[if_neg c] at hb;obtain⟨v',e',f⟩:=h3 a s o ha hb;refine⟨v',e',f.kr kr λx ex=>oA λea=>?_⟩;subst ex;obtain⟨_,y1,_⟩:=f;rw[ea,f1] at y1;simp only[Option.some.injEq,HO.lst.injEq,List.cons.injEq,and_true] at y1;have:o=some j:=by
    have:=y1.2.2;cases o with
    |none=>cases this
    |some k=>have:(j:Int)=k:=V.int.inj this;rw[show k=j by omega]
   rw[this] at hb;exact c (one a hb).symm
 ·obtain⟨v',e',f⟩:=g3 a s o ha hb;refine⟨v',e',f.kr kr λx ex=>oA λea=>?_⟩;cases s with
  |some s=>
   obtain⟨y0,y1,_⟩:=f;rw[ex] at y0;cases y0;rw[ea,f1] at y1;simp only[Option.some.injEq,HO.lst.injEq,List.cons.injEq,and_true] at y1;cases y1.2.2
  |none=>
   cases o with
   |none=>rw[ex] at f;cases f
   |some k=>
    obtain⟨b,ba,ha,y0,y1,y2,y3,_⟩:=f;rw[ex] at y0;cases y0;rw[ea,f1] at y1;simp only[Option.some.injEq,HO.lst.injEq,List.cons.injEq,and_true,V.ref.injEq] at y1;obtain⟨ls,z1,z2⟩:=f3;rw[y1.2.1,y3] at z1;have e9:ls=[]:=by cases z1;rfl
    rw[e9] at z2;generalize r.ks=ks at *;cases z2;exact hk rfl
end
structure Lp (H:Hp) (L:Lb) (pl fl sl:Addr) (p:St):Prop where
 q:Lq H L pl fl sl p.h p.fr p.sr p.tf p.ts (UB p.fr)
 tw:Tw p
theorem Lv.zv {H H':Hp} {L:Lb} (l:Lv L H) (z:Zv [] L L H H'):Lv L H':=λc hc=>let ⟨us,h⟩:=l c hc;⟨us,z.kz _ _ h (.inr ⟨hc,by simp⟩)⟩
theorem Lp.zv {H H':Hp} {L L':Lb} {pl fl sl:Addr} {p:St} (h:Lp H L pl fl sl p) (z:Zv [] L L' H H') (lv:Lv L' H'):Lp H' L' pl fl sl p:=⟨h.q.zv z lv,h.tw⟩
theorem Lp.same {H H':Hp} {L:Lb} {pl fl sl:Addr} {p:St} (h:Lp H L pl fl sl p) (s:iA H H'):Lp H' L pl fl sl p:=⟨h.q.same s,h.tw⟩
theorem Lp.new {H:Hp} {L:Lb} {pl fl sl:Addr} {p:St} (h:Lp H L pl fl sl p) {a:Addr} {k:Nat} {us:List V} (hp:H a=none):Lp (upd H a (.lst us)) (lab L a k) pl fl sl p:=⟨h.q.new hp,h.tw⟩
theorem Mv.lab {S:List Nat} {L:Lb} {H G:Hp} {u:Addr} {k:Nat} (s:iA H G) (hu:H u=none):Mv S L (Pf.lab L u k) H G:=⟨λc=>by
 by_cases e:c=u
 ·rw[e];exact .inr hu
 ·exact .inl (KC e),λc o hc _=>s _ _ hc,λc hc=>NB s hc⟩
theorem Lv.lab {L:Lb} {H G:Hp} {u:Addr} {k:Nat} {us:List V} (l:Lv L H) (s:iA H G) (g:G u=some (.lst us)):Lv (Pf.lab L u k) G:=λc hc=>by
 by_cases e:c=u
 ·rw[e];exact⟨_,g⟩
 ·rw[KC e] at hc;obtain⟨us,h⟩:=l c hc;exact⟨us,s _ _ h⟩
theorem Lp.lab {H G:Hp} {L:Lb} {pl fl sl:Addr} {p:St} {u:Addr} {k:Nat} {us:List V} (h:Lp H L pl fl sl p) (s:iA H G) (hu:H u=none) (g:G u=some (.lst us)):Lp G (Pf.lab L u k) pl fl sl p:=h.zv ((Mv.lab s hu).zv h.q.lv (by simp)) (h.q.lv.lab s g)
noncomputable def iG (p:St) (c:Option Nat) (ms:List Bool) (p1:St) (i:Nat) (ps:List Int) (out:Option (Nat×Sh)):Prop:=
 (aC p.fr p.tf=some i/\p1=p/\ps=[]/\out=none)\/
 (aC p.fr p.tf=none/\∃(q:Sh) (j:Nat) (a:Addr),IG ms p.h i ps/\p.fr[i]?=some (some q)/\MA p i c=some j/\j < p.sr.length/\p1=IB {p with h:=(i+1) % p.fr.length} i j {q with sh:=a}/\out=some (j,q))
noncomputable def NE (H:Hp) (L:Lb) (v:V):Option (Nat×Sh)->Prop
 |none=>v=.non
 |some (j,q)=>∃o l,v=.ref o/\H o=some (.tup [.int (j:Int),.ref l])/\FD H l (yB q.ks)/\L l=5
noncomputable def zK (g c:Option Nat):Option Nat:=match g with
 |some j=>some j
 |none=>c
noncomputable def Sk (p:St) (G G':Hp):Prop:=∀(j:Nat) (w:Sh),p.sr[j]?=some (some w)->G' w.sh=G w.sh
theorem Lp.slot {G:Hp} {L:Lb} {pl fl sl:Addr} {p:St} (h:Lp G L pl fl sl p) {j:Nat} {w:Sh} (hw:p.sr[j]?=some (some w)):∃ws,G sl=some (.lst ws)/\ws.length=p.sr.length/\ws[j]?=some (.ref w.sh)/\RF G L (.ref w.sh) (some w) none:=by
 obtain⟨ws,g1,g2,g3⟩:=h.q.hs;have hj:=(List.getElem?_eq_some_iff.mp hw).1;have hln:=h.q.ln.2;obtain⟨v,e,f⟩:=g3 j _ _ hw (List.getElem?_eq_getElem ⋯);obtain⟨rfl,f1⟩:=id f;exact⟨ws,g1,g2,e,f⟩
theorem Sk.of {G G':Hp} {L:Lb} {pl fl sl:Addr} {p:St} (h:Lp G L pl fl sl p) (s:iA G G'):Sk p G G':=λj w hw=>by
 obtain⟨_,_,_,_,⟨_,f1,_⟩⟩:=h.slot hw;rw[f1];exact s _ _ f1
theorem Sk.same {G G' G2:Hp} {L:Lb} {pl fl sl:Addr} {p:St} (k:Sk p G G') (h:Lp G L pl fl sl p) (s:iA G' G2):Sk p G G2:=λj w hw=>by
 obtain⟨_,_,_,_,⟨_,f1,_⟩⟩:=h.slot hw;have:=k j w hw;rw[f1] at this ⊢;exact s _ _ this
theorem Sk.upd {G G':Hp} {L:Lb} {pl fl sl a:Addr} {o:HO} {p:St} (k:Sk p G G') (h:Lp G L pl fl sl p) (ha:L a≠2):Sk p G (upd G' a o):=λj w hw=>by
 obtain⟨_,_,_,_,⟨_,_,_,_,f1,_⟩⟩:=h.slot hw;rw[oA (λe=>ha (by rw[<-e];exact f1))];exact k j w hw
structure Lg (L5 L:Lb) (G:Hp) (u pl fl sl:Addr) (p:St) (i:Nat) (ps:List Int) (tf':List (Option Nat)) (G':Hp):Prop where
 q:Lq G' L5 pl fl sl ((i+1) % p.fr.length) p.fr p.sr tf' p.ts (UB p.fr)
 mv:Mv [1,2] L L5 G G'
 u5:G' u=some (.lst (ps.map V.int))
 tl:tf'.length=p.tf.length
 sk:Sk p G G'
theorem MJ {l:List (Option Nat)} {j k:Nat} (hk:l[k]?=some (some j)) (one:∀a:Nat,l[a]?=some (some j)->a=k):l.set k none=l.map (cl j):=by
 refine List.ext_getElem? λa=>?_;rw[List.getElem?_set,List.getElem?_map];by_cases c:k=a
 ·subst c;rw[if_pos rfl,if_pos (List.getElem?_eq_some_iff.mp hk).1,hk];show some none=some (cl j (some j));unfold cl;rw[if_pos rfl]
 ·rw[if_neg c];cases e9:l[a]? with
  |none=>rfl
  |some o=>
   show some o=some (cl j o);unfold cl;rw[if_neg (λz=>c (one a (by rw[e9,z])).symm)]
theorem ZZ {l:List (Option Nat)} {j k:Nat} (hk:l[k]?=some (some j)) (hb:∀b < k,l[b]?=some none):nD l=some j:=by
 induction l generalizing k with
 |nil=>simp at hk
 |cons x r ih=>
  cases k with
  |zero=>simp at hk;subst hk;rfl
  |succ k=>
   have h0:=hb 0 ⋯;simp at h0;subst h0;exact ih (k:=k) (by simpa using hk) λb hb9=>by simpa using hb (b+1) ⋯
theorem NJ {l:List (Option Nat)} (hb:∀b < l.length,l[b]?=some none):nD l=none:=List.findSome?_eq_none_iff.mpr λx hx=>by
 obtain⟨b,h⟩:=List.mem_iff_getElem?.mp hx;have:=hb b (List.getElem?_eq_some_iff.mp h).1;rw[h] at this;exact Option.some.inj this
noncomputable def sp_lout:Sp:=λvs H Q _=>∃(pl fl sl m:Addr) (L:Lb) (p:St) (c:Option Nat) (ms:List Bool),vs=[.ref pl,.ref m,oV c]/\Lp H L pl fl sl p/\H m=some (.lst (ms.map V.bl))/\L m∉[1,2]/\ms.length=p.fr.length/\p.h < p.fr.length/\p.fr.length<=640/\p.sr.length<=640/\(∀r,some r∈p.fr->vF r.ks/\r.ks≠[])/\(aC p.fr p.tf=none->∀i,∃j,MA p i c=some j/\j < p.sr.length)/\
 ∀H' L' p1 i ps out t e v3,iG p c ms p1 i ps out->Lp H' L' pl fl sl p1->Mv [1,2] L L' H H'->H' t=some (.tup [.int (i:Int),.ref e,v3])->H' e=some (.lst (ps.map V.int))->NE H' L' v3 out->L' e=5->Sk p H H'->Q (.ref t) H'
theorem JW (T:MB K mg A):HC P w K mg base "_law_out" 1 ["_law_plain","_law_marks","_law_slot"] [] sp_lout:=by
 refine T.Fw.have lF (λvs H Q E z=>?_) ?_
 ·obtain⟨pl,fl,sl,m,L,p,c,ms,rfl,_⟩:=z;rfl
 ·intro f cdv A' outer s H vs Q E hr z;obtain⟨pl,fl,sl,m,L,p,c,ms,rfl,hL,hm,hlm,hml,hh,hl1,hl2,hok,hsl,q⟩:=z;obtain⟨us,hf,hul,hrows⟩:=hL.q.hf;obtain⟨ws,hs,hwl,hslo⟩:=hL.q.hs;have hln:=hL.q.ln;refine⟨_,(nB (mB (i:=3) lF.nd rfl (Or.inl rfl) (yA SA (aA 0) rA (λ_ _=>rfl)))
   (nB (mB (i:=4) lF.nd rfl (Or.inl rfl) (yA SA (aA 0) rA (λ_ _=>rfl)))
   (nB (rF PassesOwn.leaving rfl (RE rfl T.Ao (dA (DB yC rfl T.Aj PySem.boot_len (dA (aA 3) nA)) nA)) (wC (i:=5) lF.nd rfl (Or.inl rfl)) (BA (GB (qB LD (yA SA (aA 3) (aA 5) (λ_ _=>rfl)) lB (gA _)) (BA (zB (VC (dA (aA 5) (dA (UC nA) (dA lB nA)))))) XB)))
   (aB (mB (i:=6) lF.nd rfl (Or.inl rfl) (UC nA))
   (aB (mB (i:=7) lF.nd rfl (Or.inl rfl) (yA SA (aA 0) rA (λ_ _=>rfl)))
   (nB (UU PassesOwn.leaving (PW.pt (QE (XD (yA SA (aA 1) (aA 7) (λ_ _=>rfl))) (OE (qB PM (DB yC rfl T.Aj PySem.boot_len (dA (aA 6) nA)) (DB yC rfl T.Aj PySem.boot_len (dA (aA 3) nA)) (gA _))))) (aB (aD (BF PySem.F.plainAttrs_list PySem.F.slot_list_append PySem.F.type_list_append CF (aA 6) (dA (aA 7) nA)))
   (BA (mB (i:=7) lF.nd rfl (Or.inl rfl) (VA FC (VA zD (aA 7) rA) (DB yC rfl T.Aj PySem.boot_len (dA (aA 3) nA)))))))
   (nB (tD (VA FC (VA zD (aA 7) rA) (DB yC rfl T.Aj PySem.boot_len (dA (aA 3) nA))) (sD (aA 0) rA uD))
   (nB (mB (i:=8) lF.nd rfl (Or.inl rfl) (yA SA (yA SA (aA 3) (aA 7) (λ_ _=>rfl)) rA (λ_ _=>rfl)))
   (nB (rF PassesOwn.leaving rfl (RE rfl T.Ao (dA (DB yC rfl T.Aj PySem.boot_len (dA (aA 4) nA)) nA)) (wC (i:=5) lF.nd rfl (Or.inl rfl)) (BA (GB (PW.pt (QE (qB LD (aA 8) lB (gA _)) (OE (qB LD (yA SA (aA 4) (aA 5) (λ_ _=>rfl)) lB (gA _))))) (BA (mB (i:=8) lF.nd rfl (Or.inl rfl) (aA 5))) XB)))
   (nB (rF PassesOwn.leaving rfl (RE rfl T.Ao (dA (DB yC rfl T.Aj PySem.boot_len (dA (aA 3) nA)) nA)) (wC (i:=5) lF.nd rfl (Or.inl rfl)) (BA (GB (PW.pt (QE (qB LD (aA 8) lB (gA _)) (OE (qB MD (yA SA (yA SA (aA 3) (aA 5) (λ_ _=>rfl)) rA (λ_ _=>rfl)) lB (gA _))))) (aB (mB (i:=8) lF.nd rfl (Or.inl rfl) (yA SA (yA SA (aA 3) (aA 5) (λ_ _=>rfl)) rA (λ_ _=>rfl)))
   (BA (tD lB (sD (yA SA (aA 3) (aA 5) (λ_ _=>rfl)) rA uD)))) XB)))
   (nB (GB (qB LD (aA 8) lB (gA _)) (BA (mB (i:=8) lF.nd rfl (Or.inl rfl) (aA 2))) XB)
   (nB (tD (UC (dA (yA SA (yA SA (aA 3) (aA 7) (λ_ _=>rfl)) rA (λ_ _=>rfl)) (dA (yA SA (yA SA (aA 3) (aA 7) (λ_ _=>rfl)) rA (λ_ _=>rfl)) (dA lB nA)))) (sD (aA 4) (aA 8) uD))
   (nB (tD lB (sD (aA 3) (aA 7) uD))
   (BA (zB (VC (dA (aA 7) (dA (aA 6) (dA (VC (dA (aA 8) (dA (DB (PV rfl) rfl T.Dc PyProof.Rows.boot_sorted (dA (yA SA (yA SA (aA 4) (aA 8) (λ_ _=>rfl)) rA (λ_ _=>rfl)) nA)) nA))) nA))))))))))))))))))),?_⟩
  rfl';refine wA (λσ G=>σ=[some (.ref pl),some (.ref m),some (oV c),some (.ref fl),none,none,none,none,none]/\H=G) ?_ λU9 D9 hU9 hD9 σ1 G1=>?_
  ·rfl';exact⟨_,kA.of hL.q.hp,_,xA (j:=0) rfl,rfl⟩
  rintro⟨rfl,rfl⟩;subst hU9 hD9;refine wA (λσ G=>σ=[some (.ref pl),some (.ref m),some (oV c),some (.ref fl),some (.ref sl),none,none,none,none]/\H=G) ?_ λU9 D9 hU9 hD9 σ2 G2=>?_
  ·rfl';exact⟨_,kA.of hL.q.hp,_,xA (j:=1) rfl,rfl⟩
  rintro⟨rfl,rfl⟩;subst hU9 hD9;refine wA (λσ G=>∃v,σ=[some (.ref pl),some (.ref m),some (oV c),some (.ref fl),some (.ref sl),v,none,none,none]/\G=H/\∀k < p.fr.length,∃r,p.fr[k]?=some (some r)) ?_ λU9 D9 hU9 hD9 σ3 G=>?_
  ·rfl';refine⟨_,.inl ⟨_,kA.of hf,rfl⟩,⋯,⋯,iK (λi σ G=>∃v,σ=[some (.ref pl),some (.ref m),some (oV c),some (.ref fl),some (.ref sl),v,none,none,none]/\G=H/\∀k < i,∃r,p.fr[k]?=some (some r)) ⟨_,rfl,rfl,λk hk=>absurd hk (Nat.not_lt_zero _)⟩ (λi σ G hi=>?_) (λσ G=>?_)⟩
   ·rintro⟨v,rfl,rfl,hfull⟩;have hil:i < p.fr.length:=⋯;obtain⟨r,hr0⟩:∃r,p.fr[i]?=some r:=⟨_,List.getElem?_eq_getElem hil⟩
    obtain⟨o,ho0⟩:∃o,p.tf[i]?=some o:=⟨_,List.getElem?_eq_getElem ⋯⟩
    obtain⟨v,hv,hF⟩:=hrows i r o hr0 ho0;rfl';refine⟨us,kA.of hf,v,by rw[Int.zero_add];exact xA hv,?_⟩;cases r with
    |none=>
     obtain rfl:v=.non:=hF;rw[if_pos rfl];intro e he t ht;have eo:o=none:=by
      cases o with
      |none=>rfl
      |some j=>obtain⟨r,hr9⟩:=hL.tw.full i j ho0;rw[hr0] at hr9;cases hr9
     rw[eo] at ho0;have s1:=(FB (o:=.lst []) he).1;have s2:=(FB (o:=.tup [V.int (0+(i:Int)),V.ref e,V.non]) ht).1;have b2:=(FB (o:=.tup [V.int (0+(i:Int)),V.ref e,V.non]) ht).2;rw[Int.zero_add] at s2 b2 ⊢;exact q _ (lab L e 5) p i [] none t e .non (.inl ⟨sW hr0 ho0 λk hk=>.inl (hfull k hk),rfl,rfl,rfl⟩) ((hL.new he).same s2) ((Mv.new he).trans (Mv.of s2)) b2 (s2 _ _ OA) rfl rD ((Sk.of hL s1).same hL s2)
    |some r=>
     obtain⟨rfl,_⟩:=hF;rw[if_neg (λz=>nomatch z)];intro k hk;rcases (by omega:k < i\/k=i) with h|rfl
     ·exact hfull k h
     ·exact⟨r,hr0⟩
   rintro⟨v5,rfl,rfl,hfull⟩;exact⟨_,rfl,rfl,λk hk=>hfull k ⋯⟩
  rintro⟨v5,rfl,rfl,hfull⟩;subst hU9 hD9;have hnone:aC p.fr p.tf=none:=tW λk hk=>.inl (hfull k ⋯);have hslF:=hsl hnone;clear hsl;rfl';intro u hu;have a1:=(FB (o:=.lst []) hu).1;have b1:=(FB (o:=.lst []) hu).2;refine⟨_,kA.of (a1 _ _ hL.q.hp),_,xA (j:=2) rfl,?_⟩;have hpos:(0:Int) < ms.length:=⋯;refine wA (λσ G'=>∃i ps,σ=[some (.ref pl),some (.ref m),some (oV c),some (.ref fl),some (.ref sl),v5,some (.ref u),some (.int ((i:Nat):Int)),none]/\iA G G'/\IG ms p.h i ps/\i < p.fr.length/\G' u=some (.lst (ps.map V.int))) ?_ λU9 D9 hU9 hD9 σ5 G5=>?_
  ·have fin:∀(j:Nat) (H':Hp),j<=ms.length->(∀i < j,ms.getD (((p.h:Int)+i) % (ms.length:Int)).toNat false=true)->(j=ms.length\/ms.getD (((p.h:Int)+j) % (ms.length:Int)).toNat false=false)->iA G H'->H' u=some (.lst ((rg ms.length p.h j).map V.int))->∃i:Nat,((p.h:Int)+j) % (ms.length:Int)=(i:Int)/\iA G H'/\∃x,IG ms p.h i x/\i < p.fr.length/\H' u=some (.lst (x.map V.int)):=λj H' hj ha hb s1 hu'=>by
    have e0:=Int.emod_nonneg ((p.h:Int)+j) (show (ms.length:Int)≠0 by omega);have e1:=Int.emod_lt_of_pos ((p.h:Int)+j) hpos;exact⟨(((p.h:Int)+j) % (ms.length:Int)).toNat,⋯,s1,rg ms.length p.h j,⟨j,hj,ha,hb,⋯,rfl⟩,⋯,hu'⟩
   rfl';refine VU (λmm σ H'=>∃j:Nat,mm=ms.length - j/\j<=ms.length/\σ=[some (.ref pl),some (.ref m),some (oV c),some (.ref fl),some (.ref sl),v5,some (.ref u),some (.int (((p.h:Int)+j) % (ms.length:Int))),none]/\iA G H'/\H' u=some (.lst ((rg ms.length p.h j).map V.int))/\(∀i < j,ms.getD (((p.h:Int)+i) % (ms.length:Int)).toNat false=true)) ms.length ⟨0,rfl,Nat.zero_le _,?_,a1,b1,λi hi=>absurd hi (Nat.not_lt_zero _)⟩ (λmm σ H'=>?_)
   ·rw[show ((p.h:Int)+((0:Nat):Int)) % (ms.length:Int)=p.h by rw[Int.emod_eq_of_lt]<;>omega]
   ·rintro⟨j,rfl,hj,rfl,sm,hu',hall⟩;rfl';have hp0:=Int.emod_nonneg ((p.h:Int)+j) (show (ms.length:Int)≠0 by omega);have hp1:=Int.emod_lt_of_pos ((p.h:Int)+j) hpos;have hat:SE (ms.map V.bl) (((p.h:Int)+j) % (ms.length:Int))=some (.bl (ms.getD (((p.h:Int)+j) % (ms.length:Int)).toNat false)):=by
     generalize ((p.h:Int)+j) % (ms.length:Int)=y at *;have e:=xA (xs:=ms.map V.bl) (j:=y.toNat) (v:=.bl (ms.getD y.toNat false)) (by
      have:y.toNat < ms.length:=⋯;simp[this])
     rw[show ((y.toNat:Nat):Int)=y by omega] at e;exact e
    refine⟨_,kA.of (sm _ _ hm),_,hat,_,rfl,?_⟩;cases hb:ms.getD (((p.h:Int)+j) % (ms.length:Int)).toNat false with
    |false=>exact UA (fin j H' hj hall (.inr hb) sm hu')
    |true=>
     refine ZB ⟨j,.inl ⟨_,kA.of hu',by rw[List.length_map,DN]⟩,us.length,.inl ⟨_,kA.of (sm _ _ hf),rfl⟩,?_⟩;by_cases c9:(j:Int) < us.length
     ·rw[if_pos c9];refine qH ?_;rfl';refine⟨.inl ⟨rfl,_,kA.of hu'⟩,_,hu',by rw[List.length_map,DN];omega,us.length,.inl ⟨_,kA.of ((ZC sm hu) _ _ hf),rfl⟩,⋯,ms.length - (j+1),⋯,j+1,rfl,⋯,?_,ZC sm hu,?_,λi hi=>?_⟩
      ·rw[hul,<-hml,Int.emod_add_emod];congr 1
      ·rw[fW,List.map_append];rfl
      ·rcases (by omega:i < j\/i=j) with hi|rfl
       ·exact hall i hi
       ·exact hb
     ·rw[if_neg c9];exact fin j H' hj hall (.inl ⋯) sm hu'
  rintro⟨i,ps,rfl,s5,hsw,hil,hu5⟩;subst hU9 hD9;have hL5:Lp G5 (lab L u 5) pl fl sl p:=hL.lab s5 hu hu5;have m5:Mv [1,2] L (lab L u 5) G G5:=Mv.lab s5 hu;have hu5l:lab L u 5 u=5:=rD;generalize lab L u 5=L5 at *;have hfull:∀k < p.fr.length,∃r,p.fr[k]?=some (some r):=λk hk=>hfull k ⋯;have k5:=Sk.of hL s5;clear hrows hslo hf hs s5 a1 b1 hm;refine wA (λσ G'=>σ=[some (.ref pl),some (.ref m),some (oV c),some (.ref fl),some (.ref sl),v5,some (.ref u),some (.int ((i:Nat):Int)),none]/\Lp G' L5 pl fl sl {p with h:=(i+1) % p.fr.length}/\Mv [1,2] L L5 G G'/\G' u=some (.lst (ps.map V.int))/\Sk p G G') ?_ λU9 D9 hU9 hD9 σ6 G6=>?_
  ·obtain⟨us,hf,hul,hrows⟩:=hL5.q.hf;rfl';have hmod:((i:Int)+1) % (us.length:Int)=(((i+1) % p.fr.length:Nat):Int):=by rw[hul,Int.natCast_emod,Int.natCast_add];rfl
   refine⟨us.length,.inl ⟨_,kA.of hf,rfl⟩,⋯,_,hL5.q.hp,2,pD (by show 2 < 3;decide),?_⟩;rw[hmod];have nup:u≠pl:=λe=>by rw[e,hL5.q.l1.1] at hu5l;cases hu5l
   exact⟨⟨hL5.q.hand,hL5.tw.hand⟩,m5.trans (Mv.set hL5.q.hp (by rw[hL5.q.l1.1];simp)),by rw[oA nup];exact hu5,k5.upd hL (by rw[hL.q.l1.1];decide)⟩
  rintro⟨rfl,hL6,m6,jK,k6⟩;subst hU9 hD9;clear hL5 m5 hu5;obtain⟨r,hri⟩:=hfull i ⋯;obtain⟨o,hoi⟩:∃o,p.tf[i]?=some o:=⟨_,List.getElem?_eq_getElem ⋯⟩
  obtain⟨okr,nkr⟩:=hok r (List.mem_of_getElem? hri);refine wA (λσ G'=>σ=[some (.ref pl),some (.ref m),some (oV c),some (.ref fl),some (.ref sl),v5,some (.ref u),some (.int ((i:Nat):Int)),some (oV o)]/\G'=G6) ?_ λU9 D9 hU9 hD9 σ7 G7=>?_
  ·obtain⟨us,hf,hul,hrows⟩:=hL6.q.hf;obtain⟨v,hv,⟨rfl,f1,_⟩⟩:=hrows i _ _ hri hoi;rfl';exact⟨_,kA.of hf,_,xA hv,r.sh,rfl,_,kA.of f1,_,xA (j:=2) rfl,rfl⟩
  rintro⟨rfl,rfl⟩;subst hU9 hD9;refine wA (λσ G'=>∃v5 g,σ=[some (.ref pl),some (.ref m),some (oV c),some (.ref fl),some (.ref sl),v5,some (.ref u),some (.int ((i:Nat):Int)),some (oV g)]/\G'=G7/\g=zK o (aC p.sr p.ts)) ?_ λU9 D9 hU9 hD9 σ8 G8=>?_
  ·obtain⟨ws,hs,hwl,hslo⟩:=hL6.q.hs;have hwl:ws.length=p.sr.length:=hwl;rfl';refine⟨_,.inl ⟨_,kA.of hs,rfl⟩,⋯,⋯,?_⟩;refine iK (λk σ G'=>∃v5 g,σ=[some (.ref pl),some (.ref m),some (oV c),some (.ref fl),some (.ref sl),v5,some (.ref u),some (.int ((i:Nat):Int)),some (oV g)]/\G'=G7/\((∃j,g=some j/\(o=some j\/(o=none/\aC p.sr p.ts=some j)))\/(g=none/\o=none/\∀b < k,(∃r,p.sr[b]?=some (some r))\/∃t,p.ts[b]?=some (some t)))) ⟨_,o,rfl,rfl,?_⟩ (λk σ G' hk=>?_) (λσ G'=>?_)
   ·cases o with
    |some j=>exact .inl ⟨j,rfl,.inl rfl⟩
    |none=>exact .inr ⟨rfl,rfl,λb hb=>absurd hb (Nat.not_lt_zero _)⟩
   ·rintro⟨v6,g,rfl,rfl,hg⟩;have hkl:k < p.sr.length:=⋯;obtain⟨r2,hr2⟩:∃r,p.sr[k]?=some r:=⟨_,List.getElem?_eq_getElem hkl⟩
    obtain⟨o2,ho2⟩:∃o,p.ts[k]?=some o:=⟨_,List.getElem?_eq_getElem ⋯⟩
    obtain⟨v,hv,hF⟩:=hslo k r2 o2 hr2 ho2;rfl';rcases hg with ⟨j,rfl,hj⟩|⟨rfl,rfl,hb⟩
    ·rw[if_neg (show ¬(oV (some j)=V.non) from λz=>nomatch z)];exact⟨some j,rfl,.inl ⟨j,rfl,hj⟩⟩
    ·rw[if_pos (show oV none=V.non from rfl)];refine⟨ws,kA.of hs,v,by rw[Int.zero_add];exact xA hv,?_⟩;have more:((∃r,p.sr[k]?=some (some r))\/∃t,p.ts[k]?=some (some t))->∀b < k+1,(∃r,p.sr[b]?=some (some r))\/∃t,p.ts[b]?=some (some t):=λh b hb9=>by
      rcases (by omega:b < k\/b=k) with h9|rfl
      ·exact hb b h9
      ·exact h
     cases r2 with
     |some r2=>
      obtain⟨rfl,_⟩:=hF;rw[if_neg (λz=>nomatch z)];exact⟨none,rfl,.inr ⟨rfl,rfl,more (.inl ⟨_,hr2⟩)⟩⟩
     |none=>
      cases o2 with
      |none=>
       obtain rfl:v=.non:=hF;rw[if_pos rfl];exact⟨some k,by rw[Int.zero_add];rfl,.inl ⟨k,rfl,.inr ⟨rfl,sW hr2 ho2 hb⟩⟩⟩
      |some b=>
       obtain⟨a,_,_,rfl,_⟩:=hF;rw[if_neg (λz=>nomatch z)];exact⟨none,rfl,.inr ⟨rfl,rfl,more (.inr ⟨_,ho2⟩)⟩⟩
   ·rintro⟨v6,g,rfl,rfl,hg⟩;refine⟨_,g,rfl,rfl,?_⟩;rcases hg with ⟨j,rfl,rfl|⟨rfl,e⟩⟩|⟨rfl,rfl,hb⟩
    ·rfl
    ·exact e.symm
    ·exact (tW λk hk=>hb k ⋯).symm
  rintro⟨v8,g,rfl,rfl,hg⟩;subst hU9 hD9;have hsf:∀c,MA p i c=zK g (zK (nD p.tf) c):=λc=>by
   unfold MA;rw[hoi,hg];unfold zK;cases o with
   |some j=>rfl
   |none=>
    cases aC p.sr p.ts with
    |some j=>rfl
    |none=>rfl
  refine wA (λσ G'=>∃v5 g2 tf',σ=[some (.ref pl),some (.ref m),some (oV c),some (.ref fl),some (.ref sl),v5,some (.ref u),some (.int ((i:Nat):Int)),some (oV g2)]/\Lg L5 L G u pl fl sl p i ps tf' G'/\((g2=none/\tf'=p.tf/\g=none/\nD p.tf=none)\/(∃j,g2=some j/\MA p i none=some j/\∀a:Nat,a≠i->tf'[a]?=(p.tf.map (cl j))[a]?))) ?_ λU9 D9 hU9 hD9 σ9 G9=>?_
  ·obtain⟨us,hf,hul,hrows⟩:=hL6.q.hf;have hul:us.length=p.fr.length:=hul;rfl';refine⟨_,.inl ⟨_,kA.of hf,rfl⟩,⋯,⋯,?_⟩;have hown:∀{j},g=some j->∀a:Nat,a≠i->p.tf[a]?=(p.tf.map (cl j))[a]?:=λ{j} e a ha=>by
    rw[e] at hg;cases o with
    |some j2=>
     obtain rfl:j=j2:=Option.some.inj hg;rw[List.getElem?_map];cases e9:p.tf[a]? with
     |none=>rfl
     |some y=>
      show some y=some (cl j y);unfold cl;rw[if_neg (λz=>?_)];rw[z] at e9;have x1:=hL.tw.there a j e9;rw[hL.tw.there i j hoi] at x1;exact ha (Option.some.inj (Option.some.inj x1)).symm
    |none=>
     have e9:aC p.sr p.ts=some j:=hg.symm;rw[LN λa h=>by have:=hL.tw.there a j h;rw[(vK e9).2] at this;cases this]
   refine iK (λk σ G'=>∃v5 g2 tf',σ=[some (.ref pl),some (.ref m),some (oV c),some (.ref fl),some (.ref sl),v5,some (.ref u),some (.int ((i:Nat):Int)),some (oV g2)]/\Lg L5 L G u pl fl sl p i ps tf' G'/\((g2=none/\tf'=p.tf/\g=none/\∀b < k,p.tf[b]?=some none)\/(∃j,g2=some j/\MA p i none=some j/\∀a:Nat,a≠i->tf'[a]?=(p.tf.map (cl j))[a]?))) ⟨_,g,p.tf,rfl,⟨hL6.q,m6,jK,rfl,k6⟩,?_⟩ (λk σ G' hk=>?_) (λσ G'=>?_)
   ·cases g with
    |none=>exact .inl ⟨rfl,rfl,rfl,λb hb=>absurd hb (Nat.not_lt_zero _)⟩
    |some j=>exact .inr ⟨j,rfl,hsf none,hown rfl⟩
   ·rintro⟨v6,g2,tf',rfl,hG,hd⟩;have hkl:k < p.fr.length:=⋯;obtain⟨r2,hr2⟩:=hfull k hkl;obtain⟨us,hf,hul,hrows⟩:=hG.q.hf;rfl';rcases hd with ⟨rfl,rfl,rfl,hb⟩|⟨j,rfl,hj⟩
    ·obtain⟨o2,ho2⟩:∃o,p.tf[k]?=some o:=⟨_,List.getElem?_eq_getElem ⋯⟩
     obtain⟨v,hv,⟨rfl,f1,_⟩⟩:=hrows k _ _ hr2 ho2;rw[if_pos (show oV none=V.non from rfl),Int.zero_add];refine⟨us,kA.of hf,_,xA hv,r2.sh,rfl,_,kA.of f1,oV o2,xA (j:=2) rfl,?_⟩;cases o2 with
     |none=>
      refine wF (by rw[decide_eq_true (show oV none=V.non from rfl)];rfl) ⟨none,rfl,p.tf,hG,.inl ⟨rfl,rfl,rfl,λb hb9=>?_⟩⟩;rcases (by omega:b < k\/b=k) with h9|rfl
      ·exact hb b h9
      ·exact ho2
     |some j=>
      have one:∀a:Nat,p.tf[a]?=some (some j)->a=k:=λa ha=>by
       have x1:=hL.tw.there a j ha;rw[hL.tw.there k j ho2] at x1;exact (Option.some.inj (Option.some.inj x1)).symm
      refine mE (by rw[decide_eq_false (show ¬(oV (some j)=V.non) from λz=>nomatch z)];rfl) ⟨us,kA.of hf,_,xA hv,r2.sh,rfl,_,kA.of f1,_,xA (j:=2) rfl,us,kA.of hf,_,xA hv,r2.sh,rfl,_,f1,2,pD (by show 2 < 3;decide),some j,rfl,p.tf.set k none,⟨?_,hG.mv.trans (Mv.set f1 (by rw[(hrows k _ _ hr2 ho2).choose_spec.2.2.2.2.2.1];simp)),?_,List.length_set,?_⟩,.inr ⟨j,rfl,?_,λa ha=>by rw[MJ ho2 one]⟩⟩
      ·exact hG.q.untw hr2 ho2 one (hok r2 (List.mem_of_getElem? hr2)).2
      ·rw[oA (λe=>?_)]
       ·exact hG.u5
       ·have e2:=(hrows k _ _ hr2 ho2).choose_spec.2.2.2.2.2.1;rw[<-e,hu5l] at e2;cases e2
      ·intro j9 w9 hw9;rw[oA (λe=>?_)]
       ·exact hG.sk j9 w9 hw9
       ·obtain⟨_,_,_,_,⟨_,y1,_⟩⟩:=hL.slot hw9;have y2:=hG.sk j9 w9 hw9;rw[y1,e,f1] at y2;simp only[Option.some.injEq,HO.lst.injEq,List.cons.injEq,and_true] at y2;cases y2.2.2
      ·rw[hsf];unfold zK;rw[ZZ ho2 hb]
    ·rw[if_neg (show ¬(oV (some j)=V.non) from λz=>nomatch z)];exact⟨some j,rfl,tf',hG,.inr ⟨j,rfl,hj⟩⟩
   ·rintro⟨v6,g2,tf',rfl,hG,hd⟩;refine⟨_,g2,rfl,tf',hG,hd.imp (λ⟨a,b,c,d⟩=>⟨a,b,c,NJ λb hb=>d b ⋯⟩) id⟩
  rintro⟨v9,g2,tf',rfl,hG9,hd⟩;subst hU9 hD9;refine wA (λσ G'=>∃j tf',σ=[some (.ref pl),some (.ref m),some (oV c),some (.ref fl),some (.ref sl),v9,some (.ref u),some (.int ((i:Nat):Int)),some (.int ((j:Nat):Int))]/\Lg L5 L G u pl fl sl p i ps tf' G'/\MA p i c=some j/\j < p.sr.length/\∀a:Nat,a≠i->tf'[a]?=(p.tf.map (cl j))[a]?) ?_ λU9 D9 hU9 hD9 σ10 G10=>?_
  ·obtain⟨j,hj1,hj2⟩:=hslF i;rfl';rcases hd with ⟨rfl,rfl,rfl,hb⟩|⟨j2,rfl,hj3,hj4⟩
   ·have e1:=hsf c;rw[hb] at e1;have e2:c=some j:=by rw[hj1] at e1;exact e1.symm
    refine OD (λ_=>⟨j,by rw[e2];rfl,p.tf,hG9,hj1,hj2,λa _=>?_⟩) (λz=>absurd rfl z);rw[LN λa h=>by have:=vW hb (List.getElem?_eq_some_iff.mp h).1;rw[this] at h;cases h]
   ·have e2:j2=j:=by
     have x1:=hsf c;have x2:=hsf none;rw[hj3] at x2;rw[hj1] at x1;unfold zK at x1 x2;cases g with
     |some y=>exact Option.some.inj (x2.trans x1.symm)
     |none=>
      cases e3:nD p.tf with
      |some y=>rw[e3] at x1 x2;exact Option.some.inj (x2.trans x1.symm)
      |none=>rw[e3] at x2;cases x2
    subst e2;exact OD (λz=>by cases z) (λ_=>⟨j2,rfl,tf',hG9,hj1,hj2,hj4⟩)
  rintro⟨j,tf',rfl,hG,hsj,hjl,htf⟩;subst hU9 hD9;clear hG9 hd hsf hg hL6 m6 jK;obtain⟨o',ho'⟩:∃o,tf'[i]?=some o:=⟨_,List.getElem?_eq_getElem (by have:=hG.tl;omega)⟩
  refine wA (λσ G'=>∃L6 a,σ=[some (.ref pl),some (.ref m),some (oV c),some (.ref fl),some (.ref sl),v9,some (.ref u),some (.int ((i:Nat):Int)),some (.int ((j:Nat):Int))]/\Lq G' L6 pl fl sl ((i+1) % p.fr.length) p.fr (p.sr.set j (some {r with sh:=a})) tf' (p.ts.set j none) (UB p.fr)/\Mv [1,2] L L6 G G'/\G' u=some (.lst (ps.map V.int))/\L6 u=5/\Sk p G G') ?_ λU9 D9 hU9 hD9 σ11 G11=>?_
  ·obtain⟨us,hf,hul,hrows⟩:=hG.q.hf;obtain⟨v,hv,hF⟩:=hrows i _ _ hri ho';obtain⟨rfl,f1,f2,f3,f4,f5,f6⟩:=id hF;rfl';refine⟨us,kA.of hf,_,xA hv,r.sh,rfl,_,kA.of f1,_,xA (j:=0) rfl,us,kA.of hf,_,xA hv,r.sh,rfl,_,kA.of f1,_,xA (j:=1) rfl,λa ha=>?_⟩;have q7:=hG.q.new (k:=2) (us:=[V.ref r.bx,V.ref r.hd,V.non]) ha;have m7:=hG.mv.trans (Mv.new (k:=2) (o:=.lst [V.ref r.bx,V.ref r.hd,V.non]) ha);have l7:lab L5 a 2 a=2:=rD;obtain⟨b7,c7⟩:=FB (o:=.lst [V.ref r.bx,V.ref r.hd,V.non]) ha;have nl:∀{c us k},G10 c=some (.lst us)->L5 c=k->lab L5 a 2 c=k:=λhc hk=>by rw[KC (BB hc ha)];exact hk
   have hrow:RF (upd G10 a (.lst [V.ref r.bx,V.ref r.hd,V.non])) (lab L5 a 2) (.ref a) (some {r with sh:=a}) none:=⟨rfl,c7,b7 _ _ f2,f3.same b7,l7,nl f2 f5,(let ⟨ls,g1,_⟩:=f3;nl g1 f6)⟩
   have u7:=b7 _ _ hG.u5;have k7:=hG.sk.same hL b7;have u8:=nl hG.u5 hu5l;generalize upd G10 a _=G12 at *;generalize lab L5 a 2=L6 at *;obtain⟨ws,hs,hwl,_⟩:=q7.hs;refine⟨ws,hs,j,pD ⋯,L6,a,q7.slot (j:=j) (r:=some {r with sh:=a}) (o:=none) hs hrow,m7.trans (Mv.set hs (by rw[q7.l1.2.2];simp)),?_,u8,k7.upd hL (by rw[hL.q.l1.2.2];decide)⟩;rw[oA (λe=>by rw[e,q7.l1.2.2] at u8;cases u8)];exact u7
  rintro⟨L6,a,rfl,q11,m11,u11,l11,k11⟩;subst hU9 hD9;refine wA (λσ G'=>σ=[some (.ref pl),some (.ref m),some (oV c),some (.ref fl),some (.ref sl),v9,some (.ref u),some (.int ((i:Nat):Int)),some (.int ((j:Nat):Int))]/\Lq G' L6 pl fl sl ((i+1) % p.fr.length) (p.fr.set i none) (p.sr.set j (some {r with sh:=a})) (tf'.set i none) (p.ts.set j none) (UB p.fr)/\Mv [1,2] L L6 G G'/\G' u=some (.lst (ps.map V.int))/\Sk p G G') ?_ λU9 D9 hU9 hD9 σ12 G12=>?_
  ·obtain⟨us,hf,hul,_⟩:=q11.hf;rfl';refine⟨us,hf,i,pD ⋯,q11.frame (j:=i) (r:=none) (o:=none) hf rfl,m11.trans (Mv.set hf (by rw[q11.l1.2.1];simp)),?_,k11.upd hL (by rw[hL.q.l1.2.1];decide)⟩;rw[oA (λe=>by rw[e,q11.l1.2.1] at l11;cases l11)];exact u11
  rintro⟨rfl,q12,m12,u12,k12⟩;subst hU9 hD9;obtain⟨ws,hs,hwl,hslo⟩:=q12.hs;have hjw:j < p.ts.length:=⋯;obtain⟨v,hv,⟨rfl,f1,f2,f3,f4,f5,f6⟩⟩:=hslo j (some {r with sh:=a}) none (List.getElem?_set_self hjl) (List.getElem?_set_self hjw);obtain⟨ls,g1,g2⟩:=id f3;have f1:G12 a=some (.lst [.ref r.bx,.ref r.hd,oV none]):=f1;rfl';have hlk:=Paired.length g2;have q13:Lp G12 L6 pl fl sl (IB {p with h:=(i+1) % p.fr.length} i j {r with sh:=a}):=by
   have ht:=(hL.tw.hand (h:=(i+1) % p.fr.length)).out (i:=i) (j:=j) (r:={r with sh:=a}) λb hb=>NN (s:=p) hsj hb;obtain⟨e1,e2,e3,_,_,_,e7,e8⟩:=eG (s:={p with h:=(i+1) % p.fr.length}) (i:=i) (j:=j) (r:={r with sh:=a});obtain⟨c1,c2⟩:=MN (j:=j) (hL.tw.hand (h:=(i+1) % p.fr.length));refine⟨?_,ht.1⟩;rw[e7,e8,c1,c2,e1,e2,e3];show Lq G12 L6 pl fl sl ((i+1) % p.fr.length) (p.fr.set i none) (p.sr.set j (some {r with sh:=a})) (p.tf.map (cl j)) (p.ts.set j none) (UB (p.fr.set i none));have q14:=q12.free (tf':=p.tf.map (cl j)) (by rw[List.length_map,List.length_set,hG.tl]) λb s hb=>by
    have hbi:b≠i:=λe=>by
     rw[e,List.getElem?_set_self hil] at hb;cases hb
    rw[List.getElem?_set,if_neg (Ne.symm hbi)];exact (htf b hbi).symm
   refine q14.twins λi2 j2 h2=>?_;obtain⟨h3,h4⟩:=nE.mp h2;have hii:i2≠i:=λe=>by
    rw[e] at h3;exact h4 (NN hsj (hL.tw.back i j2 h3))
   unfold UB;rw[List.getElem?_set,if_neg (Ne.symm hii)]
  refine⟨ws,kA.of hs,_,xA hv,a,rfl,_,kA.of f1,_,xA (j:=1) rfl,r.hd,rfl,ls,kA.of g1,r.ks,sK g2 (λ_ _ q=>q),okr.2.1,okr.2.2,λl us2 ks hl hks hpm hup t1 ht1 t ht=>?_⟩;rw[GN okr.2.2 okr.2.1 hpm hup] at hks;obtain⟨b1,c1⟩:=FB (o:=.lst us2) hl;have q15:=q13.new (k:=5) (us:=us2) hl;have m15:=m12.trans (Mv.new (k:=5) (o:=.lst us2) hl);obtain⟨b2,c2⟩:=FB (o:=.tup [V.int (j:Int),V.ref l]) ht1;obtain⟨b3,c3⟩:=FB (o:=.tup [V.int (i:Int),V.ref u,V.ref t1]) ht;have b23:=b2.trans b3;exact q _ (lab L6 l 5) _ i ps (some (j,r)) t u (.ref t1) (.inr ⟨hnone,r,j,a,hsw,hri,hsj,hjl,rfl,rfl⟩) (q15.same b23) (m15.trans (Mv.of b23)) c3 (b23 _ _ (b1 _ _ u12)) ⟨t1,l,rfl,b3 _ _ c2,⟨us2,b23 _ _ c1,sK hks λ_ _ ⟨x,e,h⟩=>⟨x,e,b23 _ _ (b1 _ _ h)⟩⟩,rD⟩ (by rw[KC (BB u12 hl)];exact l11) ((k12.same hL b1).same hL b23)
theorem UN:∀{ds:List Dv} {n:Nat},(∀d∈ds,kB d<=n)->vA ds<=n
 |[],_,_=>by rw[vA];omega
 |d::ds,n,h=>by
  have:=UN (ds:=ds) (n:=n) λx hx=>h x (List.mem_cons_of_mem _ hx);have:=h d (List.mem_cons_self ..);rw[vA];omega
theorem KW {α:Type} {f:α->V} {xs:List α} {b:Bool}:kB (.seq b (xs.map λx=>.leaf (f x)))<=1:=by
 have:=UN (ds:=xs.map λx=>Dv.leaf (f x)) (n:=0) (λd hd=>by
  obtain⟨x,_,rfl⟩:=List.mem_map.mp hd;rw[kB];omega)
 rw[kB];omega
theorem OJ {ks:List (List Key)}:kB (lM ks)<=2:=by
 have:=UN (ds:=ks.map CQ) (n:=1) (λd hd=>by
  obtain⟨k,_,rfl⟩:=List.mem_map.mp hd;exact KW)
 unfold lM;rw[kB];omega
theorem PJ {r:Option Tr}:kB (xF r)<=3:=by
 cases r with
 |none=>unfold xF;rw[kB];omega
 |some r=>
  obtain⟨b,ks,o⟩:=r;have h1:kB (SN b)<=1:=KW;have h2:=OJ (ks:=ks);have h3:kB (wK o)=0:=by cases o<;>(unfold wK;rw[kB])
  unfold xF;rw[kB,vA,vA,vA,vA,h3];omega
theorem QJ {rows:List (Option Tr)}:kB (.seq false (rows.map xF))<=4:=by
 have:=UN (ds:=rows.map xF) (n:=3) (λd hd=>by
  obtain⟨k,_,rfl⟩:=List.mem_map.mp hd;exact PJ)
 rw[kB];omega
theorem IG.uq {ms:List Bool} {h i i':Nat} {ps ps':List Int} (a:IG ms h i ps) (b:IG ms h i' ps'):i=i'/\ps=ps':=by
 obtain⟨j,a1,a2,a3,a4,a5⟩:=a;obtain⟨k,b1,b2,b3,b4,b5⟩:=b;have:j=k:=by
  rcases (by omega:j < k\/j=k\/k < j) with h|h|h
  ·have:=b2 j h;rcases a3 with z|z
   ·omega
   ·rw[z] at this;cases this
  ·exact h
  ·have:=a2 k h;rcases b3 with z|z
   ·omega
   ·rw[z] at this;cases this
 subst this;exact⟨⋯,by rw[a5,b5]⟩
noncomputable def oW (o:Option (Nat×Sh)):Option (Nat×List (List Key)):=o.map λx=>(x.1,yB x.2.ks)
theorem NE.at {H:Hp} {L:Lb} {v:V} {o:Option (Nat×Sh)} (h:NE H L v o):OB [] H v o:=by
 cases o with
 |none=>exact h
 |some x=>obtain⟨j,q⟩:=x;obtain⟨o,l,e,h1,h2,h3⟩:=h;exact⟨o,l,e,h1,h2,by simp⟩
theorem NE.zv {S:List Nat} {H H':Hp} {L L':Lb} {v:V} {o:Option (Nat×Sh)} (h:NE H L v o) (z:Zv S L L' H H') (h5:5∉S):NE H' L' v o:=by
 cases o with
 |none=>exact h
 |some x=>
  obtain⟨j,q⟩:=x;obtain⟨o,l,e,h1,⟨us,h2,h4⟩,h3⟩:=h;obtain⟨y1,y2⟩:=z.lst h2 h3 (by decide) h5;exact⟨o,l,e,z.tup h1,⟨us,y1,Paired.mapP h4 λ_ _ ⟨a,e,q⟩=>⟨a,e,z.tup q⟩⟩,y2⟩
noncomputable def jC:Option Sh->Option Sh->Prop
 |none,none=>True
 |some r,some w=>w.b=r.b/\w.ks.Perm r.ks
 |_,_=>False
structure PB (s p:St):Prop where
 fr:Paired jC s.fr p.fr
 sr:Paired jC s.sr p.sr
 tf:p.tf=s.tf
 ts:p.ts=s.ts
 h:p.h=s.h
theorem LW {a b:List (Option Sh)} (h:Paired jC a b):a.map Option.isNone=b.map Option.isNone:=by
 induction h with
 |nil=>rfl
 |@cons x y _ _ h t ih=>
  rw[List.map_cons,List.map_cons,ih];cases x<;>cases y<;>first|rfl|exact h.elim
theorem MW {a b:List (Option Sh)} {t:List (Option Nat)} (h:a.map Option.isNone=b.map Option.isNone):aC a t=aC b t:=by
 have e:∀l:List (Option Sh),aC l t=((l.map Option.isNone).zip t).findIdx? λp=>p.1&&p.2.isNone:=λl=>by
  unfold aC;rw[List.zip_map_left,List.findIdx?_map]
  rfl
 rw[e,e,h]
theorem PB.emf {s p:St} (h:PB s p):aC p.fr p.tf=aC s.fr s.tf:=by rw[h.tf];exact (MW (LW h.fr)).symm
theorem PB.slot {s p:St} (h:PB s p) {i:Nat} {c:Option Nat}:MA p i c=MA s i c:=by
 unfold MA;rw[h.tf,h.ts,MW (LW h.sr).symm]
theorem PB.at {s p:St} (h:PB s p) {i:Nat} {r:Sh} (hr:s.fr[i]?=some (some r)):∃w,p.fr[i]?=some (some w)/\w.b=r.b/\w.ks.Perm r.ks:=by
 obtain⟨y,hy1,hy2⟩:=jE h.fr hr;cases y with
 |none=>exact hy2.elim
 |some w=>exact⟨w,hy1,hy2⟩
theorem PB.ats {s p:St} (h:PB s p) {i:Nat} {r:Sh} (hr:s.sr[i]?=some (some r)):∃w,p.sr[i]?=some (some w)/\w.b=r.b/\w.ks.Perm r.ks:=by
 obtain⟨y,hy1,hy2⟩:=jE h.sr hr;cases y with
 |none=>exact hy2.elim
 |some w=>exact⟨w,hy1,hy2⟩
noncomputable def KG:Option (Nat×Sh)->Option (Nat×Sh)->Prop
 |none,none=>True
 |some (j,q),some (j',q')=>j=j'/\q'.b=q.b/\q'.ks.Perm q.ks
 |_,_=>False
theorem PB.out {s p:St} (h:PB s p) (hT:Tw s) (hT':Tw p) {i j x:Nat} {q q':Sh} (hb:q'.b=q.b) (hk:q'.ks.Perm q.ks):PB (IB {s with h:=x} i j q) (IB {p with h:=x} i j q'):=by
 obtain⟨e1,e2,e3,_,_,_,e7,e8⟩:=eG (s:={s with h:=x}) (i:=i) (j:=j) (r:=q);obtain⟨d1,d2,d3,_,_,_,d7,d8⟩:=eG (s:={p with h:=x}) (i:=i) (j:=j) (r:=q');obtain⟨c1,c2⟩:=MN (j:=j) (hT.hand (h:=x));obtain⟨c3,c4⟩:=MN (j:=j) (hT'.hand (h:=x));refine⟨?_,?_,?_,?_,?_⟩
 ·rw[e1,d1];exact cG (show jC none none from trivial) i h.fr
 ·rw[e2,d2];exact cG (show jC (some q) (some q') from ⟨hb,hk⟩) j h.sr
 ·rw[e7,d7,c1,c3];show p.tf.map (cl j)=s.tf.map (cl j);rw[h.tf]
 ·rw[e8,d8,c2,c4];show p.ts.set j none=s.ts.set j none;rw[h.ts]
 ·rw[e3,d3]
theorem PB.ffr {s p s1 p1:St} {c c':Option Nat} {ms:List Bool} {i i':Nat} {ps ps':List Int} {out out':Option (Nat×Sh)} (h:PB s p) (hT:Tw s) (hT':Tw p) (a:gD s c ms s1 i ps out) (b:iG p c' ms p1 i' ps' out') (hc:∀i j,MA s i c=some j->MA s i c'=some j):i=i'/\ps=ps'/\PB s1 p1/\KG out out':=by
 rcases a with ⟨a1,rfl,rfl,rfl⟩|⟨a1,q,j,a2,a3,a4,a5,rfl,rfl⟩
 ·rcases b with ⟨b1,rfl,rfl,rfl⟩|⟨b1,_⟩
  ·rw[h.emf,a1] at b1;exact⟨Option.some.inj b1,rfl,h,trivial⟩
  ·rw[h.emf,a1] at b1;cases b1
 ·rcases b with ⟨b1,_⟩|⟨b1,q',j',x,b2,b3,b4,b5,rfl,rfl⟩
  ·rw[h.emf,a1] at b1;cases b1
  ·rw[h.h] at b2;obtain⟨rfl,rfl⟩:=IG.uq a2 b2;rw[h.slot,hc _ _ a4] at b4;obtain rfl:j=j':=Option.some.inj b4;obtain⟨w,hw,e1,e2⟩:=h.at a3;rw[b3] at hw;obtain rfl:q'=w:=Option.some.inj (Option.some.inj hw);have hl:p.fr.length=s.fr.length:=(Paired.length h.fr).symm;refine⟨rfl,rfl,?_,rfl,e1,e2⟩;rw[hl];exact h.out hT hT' (q':={q' with sh:=x}) e1 e2
theorem PB.back {s1 p1:St} {i j:Nat} {q q':Sh} {out out':Option (Nat×Sh)} (h:PB s1 p1) (ho:KG out out') (hb:q'.b=q.b) (hk:q'.ks.Perm q.ks):PB (gB s1 i j q out) (gB p1 i j q' out'):=by
 obtain⟨e1,e2,e3,e4,e5,_⟩:=wJ (s1:=s1) (i:=i) (j:=j) (c:=q) (out:=out);obtain⟨d1,d2,d3,d4,d5,_⟩:=wJ (s1:=p1) (i:=i) (j:=j) (c:=q') (out:=out');have eo:out'.map (·.1)=out.map (·.1):=by
  cases out with
  |none=>cases out' with
   |none=>rfl
   |some _=>exact ho.elim
  |some x=>cases out' with
   |none=>exact ho.elim
   |some y=>obtain⟨a,b⟩:=x;obtain⟨c,d⟩:=y;obtain⟨rfl,_⟩:=ho;rfl
 rw[eo] at d2 d3 d4;refine⟨?_,?_,?_,?_,?_⟩
 ·rw[e1,d1];exact cG (show jC (some q) (some q') from ⟨hb,hk⟩) i h.fr
 ·rw[e2,d2]
  split
  ·exact h.sr
  ·exact cG (show jC none none from trivial) j h.sr
 ·rw[e3,d3,h.tf]
 ·rw[e4,d4,h.ts]
 ·rw[e5,d5,h.h]
theorem PB.tw {s p:St} (h:PB s p) (t:Tw s):Tw p:=⟨by rw[h.tf,h.ts];exact t.there,by rw[h.tf,h.ts];exact t.back,λa b hab=>by
 rw[h.tf] at hab;obtain⟨r,hr⟩:=t.full a b hab;obtain⟨w,hw,_⟩:=h.at hr;exact⟨w,hw⟩,λa b hab=>by
 rw[h.ts] at hab;obtain⟨y,hy1,hy2⟩:=jE h.sr (t.bare a b hab);cases y with
 |none=>exact hy1
 |some w=>exact hy2.elim⟩
theorem iG.facts {p p1:St} {c:Option Nat} {ms:List Bool} {i:Nat} {ps:List Int} {out:Option (Nat×Sh)} (h:iG p c ms p1 i ps out) (hT:Tw p):p1.fr[i]?=some none/\p1.fr.length=p.fr.length/\p1.sr.length=p.sr.length/\(∀b,p1.tf[i]?≠some (some b))/\(∀j,out.map (·.1)≠some j->p1.sr[j]?=p.sr[j]?):=by
 rcases h with ⟨h1,rfl,_,rfl⟩|⟨h1,q,j,a,hsw,hq,hsf,hj,rfl,rfl⟩
 ·obtain⟨e1,e2⟩:=vK h1;exact⟨e1,rfl,rfl,(λb z=>by rw[e2] at z;cases z),λ_ _=>rfl⟩
 ·obtain⟨e1,e2,_⟩:=eG (s:={p with h:=(i+1) % p.fr.length}) (i:=i) (j:=j) (r:={q with sh:=a});obtain⟨l1,l2⟩:=xW (s:={p with h:=(i+1) % p.fr.length}) (i:=i) (j:=j) (r:={q with sh:=a});obtain⟨t1,t2⟩:=(hT.hand (h:=(i+1) % p.fr.length)).out (r:={q with sh:=a}) (j:=j) λb hb=>NN (s:=p) hsf hb;refine⟨?_,l1,l2,t2,λj2 hj2=>?_⟩
  ·rw[e1];exact List.getElem?_set_self (List.getElem?_eq_some_iff.mp hq).1
  ·rw[e2];show (p.sr.set j _)[j2]?=_;rw[List.getElem?_set,if_neg (λe=>hj2 (by rw[<-e];rfl))]
theorem LQ {a b:List (List Key)} (h:a.Perm b) (ok:vF b):yB a=yB b:=GN ok.2.2 ok.2.1 (lE.trans h) (nQ (λx hx=>ok.2.2 x (h.mem_iff.mp hx)) (h.nodup_iff.mpr ok.2.1))
theorem vF.pm {a b:List (List Key)} (h:a.Perm b) (ok:vF b):vF a:=⟨by rw[h.length_eq];exact ok.1,h.nodup_iff.mpr ok.2.1,λk hk=>ok.2.2 k (h.mem_iff.mp hk)⟩
theorem MQ {s:St} {i j:Nat} {c:Option Nat} (h:MA s i none=some j):MA s i c=some j:=by
 unfold MA at *;cases e:s.tf[i]? with
 |none=>
  rw[e] at h;cases e1:aC s.sr s.ts with
  |some _=>rw[e1] at h;exact h
  |none=>
   rw[e1] at h;cases e2:nD s.tf with
   |some _=>rw[e2] at h;exact h
   |none=>rw[e2] at h;cases h
 |some u=>
  rw[e] at h;cases u with
  |some _=>exact h
  |none=>
   cases e1:aC s.sr s.ts with
   |some _=>rw[e1] at h;exact h
   |none=>
    rw[e1] at h;cases e2:nD s.tf with
    |some _=>rw[e2] at h;exact h
    |none=>rw[e2] at h;cases h
theorem PB.bof {s p:St} (h:PB s p) {i:Nat}:UB p.fr i=UB s.fr i:=by
 unfold UB;cases e:s.fr[i]? with
 |none=>
  rw[List.getElem?_eq_none (by rw[<-Paired.length h.fr];exact List.getElem?_eq_none_iff.mp e)]
 |some r=>
  obtain⟨y,hy1,hy2⟩:=jE h.fr e;rw[hy1];cases r<;>cases y<;>first|rfl|exact hy2.elim|exact hy2.1
noncomputable def RT (H:Hp) (v:V):Option Tr->Prop
 |none=>v=.non
 |some (b,ks,o)=>∃a ba ha k0,v=.ref a/\H a=some (.lst [.ref ba,.ref ha,oV o])/\H ba=some (.lst (b.map V.int))/\FD H ha k0/\vF k0/\yB k0=ks
theorem RT.same {H H':Hp} {v:V} {t:Option Tr} (h:RT H v t) (s:iA H H'):RT H' v t:=by
 cases t with
 |none=>exact h
 |some x=>
  obtain⟨b,ks,o⟩:=x;obtain⟨a,ba,ha,k0,e,h1,h2,h3,h4⟩:=h;exact⟨a,ba,ha,k0,e,s _ _ h1,s _ _ h2,h3.same s,h4⟩
noncomputable def RJ (K:W.Frag):Sp:=λvs H Q _=>∃(fd rl:Addr) (us:List V) (rows:List (Option Tr)),vs=[.ref fd,.ref rl]/\H rl=some (.lst us)/\us.length=rows.length/\(∀(i:Nat) t,rows[i]?=some t->∃v,us[i]?=some v/\RT H v t)/\(∀r,some r∈rows->SI r)/\rows.length<=640/\EB H (.seq false (rows.map xF)) (.ref fd)/\∀H',iA H H'->Q (.bl true) H'
theorem uM (T:MB K mg A):HC P w K mg base "_law_told" 8 ["_law_found","_law_row"] [] (RJ K):=by
 have A8:=@eW P w K mg base A T 5;refine T.E7.have bQ (λvs H Q E z=>?_) ?_
 ·obtain⟨fd,rl,us,rows,rfl,_⟩:=z;rfl
 ·intro f cdv A' outer s H vs Q E hr z;obtain⟨fd,rl,us,rows,rfl,hr9,hul,hP,ok,h64,hL,q⟩:=z;have hz:=PySem.sizeLine_eq;refine⟨_,(aB (mB (i:=2) bQ.nd rfl (Or.inl rfl) (UC nA))
   (nB (rF PassesOwn.leaving rfl (qF (aA 1)) (wC (i:=3) bQ.nd rfl (Or.inl rfl)) (BA (GB (qB LD (aA 3) lB (gA _)) (BA (aD (BF PySem.F.plainAttrs_list PySem.F.slot_list_append PySem.F.type_list_append CF (aA 2) (dA lB nA)))) (BA (aD (BF PySem.F.plainAttrs_list PySem.F.slot_list_append PySem.F.type_list_append CF (aA 2) (dA (VC (dA (yA SA (aA 3) rA (λ_ _=>rfl)) (dA (DB (PV rfl) rfl T.Dc PyProof.Rows.boot_sorted (dA (yA SA (aA 3) rA (λ_ _=>rfl)) nA)) (dA (yA SA (aA 3) rA (λ_ _=>rfl)) nA)))) nA)))))))
   (BA (zB (pC A8 (hr.mono (by decide)) ZA (dA (aA 0) (dA (aA 2) nA))))))),?_⟩
  rfl';intro du hdu;obtain⟨s1,g1⟩:=FB (o:=.lst []) hdu;generalize upd H du _=H1 at *;refine wA (λσ G=>∃v3 ys,σ=[some (.ref fd),some (.ref rl),some (.ref du),v3]/\iA H G/\G du=some (.lst ys)/\Paired (pE G [du]) ys rows) ?_ λU9 D9 hU9 hD9 σ2 G2=>?_
  ·rfl';refine⟨⟨_,kA.of (s1 _ _ hr9)⟩,lL (K:=K) (xs:=us) (λj σ G=>∃v3 ys,σ=[some (.ref fd),some (.ref rl),some (.ref du),v3]/\iA H G/\G du=some (.lst ys)/\Paired (pE G [du]) ys (rows.take j)) ⟨_,[],rfl,s1,g1,.nil⟩ (λj σ G _ ⟨_,_,_,e,_⟩=>kA.of (e _ _ hr9)) (λj v σ G hj=>?_) (λσ G=>?_)⟩
   ·rintro⟨v3,ys,rfl,s2,g2,hY⟩;have hjl:=(List.getElem?_eq_some_iff.mp hj).1;obtain⟨o,ho1⟩:∃o,rows[j]?=some o:=⟨_,List.getElem?_eq_getElem ⋯⟩
    obtain⟨v',hv',ho0⟩:=hP j o ho1;rw[hj] at hv';obtain rfl:v=v':=Option.some.inj hv';have ho2:=ho0.same s2;have htk:rows.take (j+1)=rows.take j++[o]:=by rw[List.take_add_one,ho1];rfl
    have hyl:=Paired.length hY;rw[List.length_take] at hyl;have kp:∀{G9:Hp} {us9:List V},iA G G9->G9 du=some (.lst us9)->∀{ws9:List V},Paired (pE (upd G9 du (.lst ws9)) [du]) ys (rows.take j):=λ{G9 us9} s9 hd9 {ws9}=>Paired.mapP hY λ_ _ q=>q.keep (xs:=[du]) (λx hx=>⟨ys,by rw[List.mem_singleton.mp hx];exact g2⟩) (λc o hc hn _=>by rw[oA (λz=>hn (by simp[z]))];exact s9 _ _ hc);rfl';cases o with
    |none=>
     obtain rfl:v=.non:=ho2;rw[if_pos rfl];refine⟨.inl ⟨rfl,_,kA.of g2⟩,ys,g2,⋯,ZC s2 hdu,_,rfl,?_⟩;rw[htk];exact JE (kp iB g2) rfl
    |some r=>
     obtain⟨b,ks,tw⟩:=r;obtain⟨t0,bl,hl,k0,rfl,d1,d2,⟨ls,d3,d3b⟩,⟨o1,o2,o3⟩,rfl⟩:=id ho2;have hll:=Paired.length d3b;rw[if_neg (λz=>nomatch z)];have hbl:bl≠du:=λe=>by
      obtain⟨t9,bl9,hl9,_,e9,q1,q2,_⟩:=ho0;cases e9;have q1':=s2 _ _ q1;rw[d1] at q1';cases q1';rw[e,hdu] at q2;cases q2
     refine⟨.inl ⟨rfl,_,kA.of g2⟩,t0,rfl,_,kA.of d1,.ref bl,xA (j:=0) rfl,t0,rfl,_,kA.of d1,.ref hl,xA (j:=1) rfl,hl,rfl,ls,kA.of d3,k0,sK d3b (λ_ _ q=>q),o2,o3,λl3 us3 ks3 hl3 hk3 hp3 hu3=>?_⟩;rw[GN o3 o2 hp3 hu3] at hk3;obtain⟨a3,b3⟩:=FB (o:=.lst us3) hl3;generalize upd G l3 _=J3 at *;refine⟨t0,rfl,_,kA.of (a3 _ _ d1),oV tw,xA (j:=2) rfl,λp4 hp4=>?_⟩;obtain⟨a4,b4⟩:=FB (o:=.tup [V.ref bl,V.ref l3,oV tw]) hp4;generalize upd J3 p4 _=J4 at *;have s34:=a3.trans a4;have hdJ:=s34 _ _ g2;have n3:l3≠du:=(BB g2 hl3).symm;refine⟨ys,hdJ,⋯,ZC (s2.trans s34) hdu,_,rfl,?_⟩;rw[htk];have hw:pE J4 [du] (.ref p4) (some (b,yB k0,tw)):=⟨p4,bl,l3,rfl,b4,s34 _ _ d2,⟨us3,a4 _ _ b3,sK hk3 λ_ _ ⟨a,e,q⟩=>⟨a,e,s34 _ _ q⟩⟩,by simpa using hbl,by simpa using n3⟩
     exact JE (kp s34 hdJ) (hw.keep (xs:=[du]) (λx hx=>⟨ys,by rw[List.mem_singleton.mp hx];exact hdJ⟩) (λc o hc hn _=>by rw[oA (λz=>hn (by simp[z]))];exact hc))
   ·rintro⟨v3,ys,rfl,s2,g2,hY⟩;rw[hul,List.take_length] at hY;exact⟨v3,rfl,s2,ys,g2,hY⟩
  rintro⟨v3,ys,rfl,s2,g2,hY⟩;subst hU9 hD9;rfl';refine⟨_,_,_,rfl,hL.same s2,?_,Nat.le_trans QJ (by decide),λG3 s3=>q G3 (s2.trans s3)⟩;unfold EB;exact⟨du,ys,rfl,g2,by rw[List.length_map];omega,DQ hY ok⟩
structure Cx (A:UD) (H:Hp) (z:Ss) (s:St) (L:Lb) (pl fl sl:Addr) (p:St):Prop where
 ss:lA A.Aa A.Ad A.Ac H z s
 ap:Ap s
 tw:Tw s
 bx:Bx s
 l0:∀c∈z.four,L c=0
 lb:∀r,some r∈s.fr\/some r∈s.sr->L r.bx=0
 lp:Lp H L pl fl sl p
 si:PB s p
 ok:∀r,some r∈s.fr\/some r∈s.sr->IE r/\r.ks≠[]/\r.b.length<=640
section
variable {A:UD} {H H':Hp} {z:Ss} {s s':St} {L L':Lb} {pl fl sl:Addr} {p p':St}
structure Cs (A:UD) (H:Hp) (z:Ss) (s:St) (L:Lb):Prop where
 ss:lA A.Aa A.Ad A.Ac H z s
 l0:∀c∈z.four,L c=0
 lb:∀r,some r∈s.fr\/some r∈s.sr->L r.bx=0
theorem Cx.cs (h:Cx A H z s L pl fl sl p):Cs A H z s L:=⟨h.ss,h.l0,h.lb⟩
theorem Cs.mv {N:List Nat} (h:Cs A H z s L) (m:Mv N L L' H H') (l:Lv L H) (h0:0∉N):Cs A H' z s L':=by
 refine⟨h.ss.mv m l h0 h.l0 h.lb,λc hc=>?_,λr hr=>?_⟩
 ·obtain⟨us,e⟩:=h.ss.fours c hc;rw[m.lx.at e];exact h.l0 c hc
 ·rw[m.lx.at (h.ss.bxl hr)];exact h.lb r hr
theorem Cx.law {N:List Nat} (h:Cx A H z s L pl fl sl p) (m:Mv N L L' H H') (h0:0∉N) (l:Lp H' L' pl fl sl p') (e:PB s p'):Cx A H' z s L' pl fl sl p':=
 let c:=h.cs.mv m h.lp.q.lv h0;⟨c.ss,h.ap,h.tw,h.bx,c.l0,c.lb,l,e,h.ok⟩
theorem Cx.same (h:Cx A H z s L pl fl sl p) (e:iA H H'):Cx A H' z s L pl fl sl p:=⟨h.ss.same e,h.ap,h.tw,h.bx,h.l0,h.lb,h.lp.same e,h.si,h.ok⟩
theorem Cx.new (h:Cx A H z s L pl fl sl p) {a:Addr} {k:Nat} {us:List V} (ha:H a=none):Cx A (upd H a (.lst us)) z s (Pf.lab L a k) pl fl sl p:=h.law (N:=[]) (Mv.new ha) (by simp) (h.lp.new ha) h.si
theorem Cx.lab (h:Cx A H z s L pl fl sl p) {a:Addr} {k:Nat} {us:List V} (e:iA H H') (ha:H a=none) (g:H' a=some (.lst us)):Cx A H' z s (Pf.lab L a k) pl fl sl p:=h.law (N:=[]) (Mv.lab e ha) (by simp) (h.lp.lab e ha g) h.si
theorem Cx.set (h:Cx A H z s L pl fl sl p) {a:Addr} {us us':List V} (ha:H a=some (.lst us)) (hl:4 < L a):Cx A (upd H a (.lst us')) z s L pl fl sl p:=by
 have m:Mv [L a] L L H (upd H a (.lst us')):=Mv.set ha (List.mem_singleton.mpr rfl);have h0:0∉[L a]:=by simp;omega
 refine h.law m h0 ?_ h.si;exact⟨h.lp.q.zs (m.zv h.lp.q.lv h0) (λk hk=>by rw[List.mem_singleton.mp hk];exact hl) h.lp.q.lv.set,h.lp.tw⟩
theorem Cx.okf (h:Cx A H z s L pl fl sl p):∀r,some r∈p.fr->vF r.ks/\r.ks≠[]:=λw hw=>by
 obtain⟨i,hi⟩:=List.mem_iff_getElem?.mp hw;obtain⟨r,hr,hr2⟩:=mF h.si.fr hi;cases r with
 |none=>exact hr2.elim
 |some r=>
  obtain⟨o1,o2,_⟩:=h.ok r (.inl (List.mem_of_getElem? hr));exact⟨vF.pm hr2.2 o1,λe=>o2 (by have:=hr2.2;rw[e] at this;exact this.nil_eq.symm)⟩
theorem Cx.len (h:Cx A H z s L pl fl sl p):p.fr.length=s.fr.length/\p.sr.length=s.sr.length:=⟨(Paired.length h.si.fr).symm,(Paired.length h.si.sr).symm⟩
theorem IE.ms {r:Sh} (h:IE r):(yB r.ks).length<=640/\∀k∈yB r.ks,k.length<=640:=by
 obtain⟨h1,h2,h3⟩:=h;refine⟨by rw[lE.length_eq];omega,λk hk=>?_⟩;obtain⟨s,a,b,rfl⟩:=h3 k (lE.mem_iff.mp hk);show 3<=640;decide
theorem Cx.oks (h:Cx A H z s L pl fl sl p):TH s.fr/\TH s.sr:=⟨λr hr=>let ⟨a,_,c⟩:=h.ok r (.inl hr);⟨a,c,a.ms⟩,λr hr=>let ⟨a,_,c⟩:=h.ok r (.inr hr);⟨a,c,a.ms⟩⟩
theorem Cx.tf (h:Cx A H z s L pl fl sl p):∃us,H fl=some (.lst us)/\us.length=(tF s).length/\∀(i:Nat) t,(tF s)[i]?=some t->∃v,us[i]?=some v/\RT H v t:=by
 obtain⟨us,h1,h2,h3⟩:=h.lp.q.hf;have hln:=h.lp.q.ln;have hl:=h.len;have hs:=h.ss.lens;refine⟨us,h1,by unfold tF;rw[List.length_zipWith];omega,λi t ht=>?_⟩;unfold tF at ht;rw[List.getElem?_zipWith] at ht;cases e1:s.fr[i]? with
 |none=>rw[e1] at ht;cases ht
 |some r=>
  cases e2:s.tf[i]? with
  |none=>rw[e1,e2] at ht;cases ht
  |some o=>
   rw[e1,e2] at ht;obtain rfl:RN r o=t:=Option.some.inj ht;obtain⟨y,hy1,hy2⟩:=jE h.si.fr e1;obtain⟨v,hv,hf⟩:=h3 i y o hy1 (by rw[h.si.tf];exact e2);refine⟨v,hv,?_⟩;cases r with
   |none=>
    cases y with
    |none=>exact hf
    |some w=>exact hy2.elim
   |some r=>
    cases y with
    |none=>exact hy2.elim
    |some w=>
     obtain⟨e,f1,f2,f3,_⟩:=hf;have ok:=(h.ok r (.inl (List.mem_of_getElem? e1))).1;exact⟨w.sh,w.bx,w.hd,w.ks,e,f1,by rw[<-hy2.1];exact f2,f3,vF.pm hy2.2 ok,LQ hy2.2 ok⟩
theorem Cx.ts (h:Cx A H z s L pl fl sl p):∃us,H sl=some (.lst us)/\us.length=(tS s).length/\∀(i:Nat) t,(tS s)[i]?=some t->∃v,us[i]?=some v/\RT H v t:=by
 obtain⟨us,h1,h2,h3⟩:=h.lp.q.hs;have hln:=h.lp.q.ln;have hl:=h.len;have hs:=h.ss.lens;refine⟨us,h1,by unfold tS;rw[List.length_zipWith];omega,λi t ht=>?_⟩;unfold tS at ht;rw[List.getElem?_zipWith] at ht;cases e1:s.sr[i]? with
 |none=>rw[e1] at ht;cases ht
 |some r=>
  cases e2:s.ts[i]? with
  |none=>rw[e1,e2] at ht;cases ht
  |some o=>
   rw[e1,e2] at ht;obtain rfl:kM s.fr r o=t:=Option.some.inj ht;obtain⟨y,hy1,hy2⟩:=jE h.si.sr e1;obtain⟨v,hv,hf⟩:=h3 i y o hy1 (by rw[h.si.ts];exact e2);refine⟨v,hv,?_⟩;cases r with
   |none=>
    cases y with
    |some w=>exact hy2.elim
    |none=>
     cases o with
     |none=>exact hf
     |some k=>
      obtain⟨a,ba,ha,e,f1,f2,f3,_⟩:=hf;exact⟨a,ba,ha,[],e,f1,by rw[<-h.si.bof];exact f2,⟨[],f3,.nil⟩,⟨by decide,List.nodup_nil,λk hk=>by cases hk⟩,rfl⟩
   |some r=>
    cases y with
    |none=>exact hy2.elim
    |some w=>
     obtain⟨e,f1,f2,f3,_⟩:=hf;have ok:=(h.ok r (.inr (List.mem_of_getElem? e1))).1;exact⟨w.sh,w.bx,w.hd,w.ks,e,f1,by rw[<-hy2.1];exact f2,f3,vF.pm hy2.2 ok,LQ hy2.2 ok⟩
theorem Cx.zv (h:Cx A H z s L pl fl sl p) {k:Ks z H H'} (h':lA A.Aa A.Ad A.Ac H' z s'):Zv [] L L H H':=Zv.ks h.ss h' k.kd h.l0 h.lp.q.lv (k.dm h.ss h')
end
theorem KG.ow {o o':Option (Nat×Sh)} (h:KG o o') (ok:∀j q,o=some (j,q)->IE q):oW o'=oW o:=by
 cases o with
 |none=>cases o' with
  |none=>rfl
  |some _=>exact h.elim
 |some x=>cases o' with
  |none=>exact h.elim
  |some y=>
   obtain⟨a,b⟩:=x;obtain⟨c,d⟩:=y;obtain⟨rfl,_,hp⟩:=h;show some (a,yB d.ks)=some (a,yB b.ks);rw[LQ hp (ok a b rfl)]
theorem iG.hd {p p1:St} {c:Option Nat} {ms:List Bool} {i:Nat} {ps:List Int} {out:Option (Nat×Sh)} (h:iG p c ms p1 i ps out) (hn:∀j q,out=some (j,q)->p.sr[j]?=some none):(oE p1).Perm (oE p):=by
 rcases h with ⟨h1,rfl,_,rfl⟩|⟨h1,q,j,a,hsw,hq,hsf,hj,rfl,rfl⟩
 ·exact List.Perm.refl _
 ·obtain⟨e1,e2,_⟩:=eG (s:={p with h:=(i+1) % p.fr.length}) (i:=i) (j:=j) (r:={q with sh:=a});unfold oE;rw[e1,e2,SC,SC];refine ((List.Perm.refl _).append (dG (hn j q rfl))).trans ?_;exact List.perm_middle.trans ((QH hq).symm.append_right _)
theorem Lp.ks {H:Hp} {L:Lb} {pl fl sl:Addr} {p:St} {f:Bool} {j:Nat} {w:Sh} {ks':List (List Key)} {us':List V} (h:Lp H L pl fl sl p) (hA:Ap p) (hw:(p.rw f)[j]?=some (some w)) (nk:w.ks≠[]) (ht:Paired (λv k=>∃a,v=V.ref a/\H a=some (.tup (k.map kV))) us' ks'):Lp (upd H w.hd (.lst us')) L pl fl sl (p.put f j (some {w with ks:=ks'})):=by
 have q:=h.q;obtain⟨us,h1,h2,h3⟩:=q.hf;obtain⟨ws,g1,g2,g3⟩:=q.hs;obtain⟨l1,l2,l3⟩:=q.l1;obtain⟨vs,w0,wp,l4⟩:∃vs,H w.hd=some (.lst vs)/\vs≠[]/\L w.hd=4:=by
  have go:FD H w.hd w.ks->L w.hd=4->∃vs,H w.hd=some (.lst vs)/\vs≠[]/\L w.hd=4:=λ⟨vs,a,b⟩ c=>⟨vs,a,λe=>by
   rw[e] at b;generalize w.ks=ks at *;cases b;exact nk rfl,c⟩
  cases f with
  |true=>
   have hj:=(List.getElem?_eq_some_iff.mp (show p.fr[j]?=some (some w) from hw)).1;obtain⟨v,e,f⟩:=h3 j _ _ hw (List.getElem?_eq_getElem (by have:=q.ln.1;omega));exact go f.2.2.2.1 f.2.2.2.2.2.2
  |false=>
   obtain⟨_,_,_,_,f⟩:=h.slot (show p.sr[j]?=some (some w) from hw);exact go f.2.2.2.1 f.2.2.2.2.2.2
 have kt:∀c us,H c=some (.tup us)->upd H w.hd (.lst us') c=some (.tup us):=λc us hc=>by rw[oA (bC hc w0 (λz=>nomatch z))];exact hc
 have kl:∀{c o},H c=some o->L c≠4->upd H w.hd (.lst us') c=some o:=λhc hn=>by rw[oA (λe=>hn (by rw[e];exact l4))];exact hc
 have tw:FD (upd H w.hd (.lst us')) w.hd ks':=⟨us',OA,Paired.mapP ht λ_ _ ⟨a,e,q⟩=>⟨a,e,kt _ _ q⟩⟩
 have k1:∀{v r o},RF H L v (some r) o->r.hd≠w.hd->RF (upd H w.hd (.lst us')) L v (some r) o:=λ⟨e,x1,x2,x3,y1,y2,y3⟩ hn=>⟨e,kl x1 (by rw[y1];decide),kl x2 (by rw[y2];decide),x3.to (λus hu=>by rw[oA hn];exact hu) kt,y1,y2,y3⟩
 have k2:∀{v o},RF H L v (some w) o->RF (upd H w.hd (.lst us')) L v (some {w with ks:=ks'}) o:=λ⟨e,x1,x2,x3,y1,y2,y3⟩=>⟨e,kl x1 (by rw[y1];decide),kl x2 (by rw[y2];decide),tw,y1,y2,y3⟩
 have k3:∀{v B i},RS H L B v none (some i)->RS (upd H w.hd (.lst us')) L B v none (some i):=λ⟨a,ba,ha,e,x1,x2,x3,y1,y2,y3⟩=>⟨a,ba,ha,e,kl x1 (by rw[y1];decide),kl x2 (by rw[y2];decide),by
  rw[oA (λe=>wp (by rw[e,w0] at x3;exact HO.lst.inj (Option.some.inj x3)))];exact x3,y1,y2,y3⟩
 have eb:∀x,UB (p.fr.set j (some {w with ks:=ks'})) x=(if f=true then UB p.fr x else UB (p.fr.set j (some {w with ks:=ks'})) x):=λx=>by
  cases f with
  |false=>rfl
  |true=>
   have hw:p.fr[j]?=some (some w):=hw;show _=UB p.fr x;unfold UB;rw[List.getElem?_set];by_cases c:j=x
   ·subst c;rw[if_pos rfl,if_pos (List.getElem?_eq_some_iff.mp hw).1,hw]
   ·rw[if_neg c]
 have hdn:∀(f':Bool) (x:Nat) (r:Sh),(p.rw f')[x]?=some (some r)->¬(f'=f/\x=j)->r.hd≠w.hd:=λf' x r hr hn=>by
  unfold Ap at hA;rw[SC] at hA;obtain⟨m1,m2,m3⟩:=List.nodup_append.mp hA;cases f with
  |true=>
   cases f' with
   |true=>exact dM m1 hw hr λe=>hn ⟨rfl,e⟩
   |false=>exact λe=>m3 w.hd (XE.mpr ⟨w,List.mem_of_getElem? hw,rfl⟩) r.hd (XE.mpr ⟨r,List.mem_of_getElem? hr,rfl⟩) e.symm
  |false=>
   cases f' with
   |true=>exact λe=>m3 r.hd (XE.mpr ⟨r,List.mem_of_getElem? hr,rfl⟩) w.hd (XE.mpr ⟨w,List.mem_of_getElem? hw,rfl⟩) e
   |false=>exact dM m2 hw hr λe=>hn ⟨rfl,e⟩
 have fF:∀(i:Nat) r o,(p.put f j (some {w with ks:=ks'})).fr[i]?=some r->p.tf[i]?=some o->∃v,us[i]?=some v/\RF (upd H w.hd (.lst us')) L v r o:=λi r o hr ho=>by
  have DD:p.fr[i]?=some r->¬(true=f/\i=j)->∃v,us[i]?=some v/\RF (upd H w.hd (.lst us')) L v r o:=λhr hn=>by
   obtain⟨v,e,x⟩:=h3 i r o hr ho;refine⟨v,e,?_⟩;cases r with
   |none=>exact x
   |some r=>exact k1 x (hdn true i r hr hn)
  cases f with
  |false=>exact DD hr (λz=>by cases z.1)
  |true=>
   have hr:(p.fr.set j (some {w with ks:=ks'}))[i]?=some r:=hr;have hw:p.fr[j]?=some (some w):=hw;rw[List.getElem?_set] at hr;by_cases c:j=i
   ·subst c;rw[if_pos rfl,if_pos (List.getElem?_eq_some_iff.mp hw).1] at hr;obtain rfl:=Option.some.inj hr;obtain⟨v,e,x⟩:=h3 j _ o hw ho;exact⟨v,e,k2 x⟩
   ·rw[if_neg c] at hr;exact DD hr λz=>c z.2.symm
 have fS:∀(i:Nat) r o,(p.put f j (some {w with ks:=ks'})).sr[i]?=some r->p.ts[i]?=some o->∃v,ws[i]?=some v/\RS (upd H w.hd (.lst us')) L (UB p.fr) v r o:=λi r o hr ho=>by
  have DD:p.sr[i]?=some r->¬(false=f/\i=j)->∃v,ws[i]?=some v/\RS (upd H w.hd (.lst us')) L (UB p.fr) v r o:=λhr hn=>by
   obtain⟨v,e,x⟩:=g3 i r o hr ho;refine⟨v,e,?_⟩;cases r with
   |some r=>exact k1 (o:=none) x (hdn false i r hr hn)
   |none=>
    cases o with
    |none=>exact x
    |some _=>exact k3 x
  cases f with
  |true=>exact DD hr (λz=>by cases z.1)
  |false=>
   have hr:(p.sr.set j (some {w with ks:=ks'}))[i]?=some r:=hr;have hw:p.sr[j]?=some (some w):=hw;rw[List.getElem?_set] at hr;by_cases c:j=i
   ·subst c;rw[if_pos rfl,if_pos (List.getElem?_eq_some_iff.mp hw).1] at hr;obtain rfl:=Option.some.inj hr;obtain⟨v,e,x⟩:=g3 j _ o hw ho;exact⟨v,e,k2 (o:=none) x⟩
   ·rw[if_neg c] at hr;exact DD hr λz=>c z.2.symm
 have lnp:∀f',((p.put f j (some {w with ks:=ks'})).rw f').length=(p.rw f').length:=λf'=>by cases f<;>cases f'<;>first|rfl|exact List.length_set
 have lt:=lnp true;have lf:=lnp false;refine⟨⟨?_,⟨us,kl h1 (by rw[l2];decide),h2.trans lt.symm,?_⟩,⟨ws,kl g1 (by rw[l3];decide),g2.trans lf.symm,?_⟩,q.l1,q.ne,?_,q.lv.set⟩,h.tw.put hw⟩
 ·have:(p.put f j (some {w with ks:=ks'})).h=p.h:=by cases f<;>rfl
  rw[this];exact kl q.hp (by rw[l1];decide)
 ·have:(p.put f j (some {w with ks:=ks'})).tf=p.tf:=by cases f<;>rfl
  rw[this];exact fF
 ·have:(p.put f j (some {w with ks:=ks'})).ts=p.ts:=by cases f<;>rfl
  rw[this];have e:UB (p.put f j (some {w with ks:=ks'})).fr=UB p.fr:=by
   cases f with
   |false=>rfl
   |true=>funext x;exact (eb x).trans rfl
  rw[e];exact fS
 ·have e1:(p.put f j (some {w with ks:=ks'})).tf=p.tf:=by cases f<;>rfl
  have e2:(p.put f j (some {w with ks:=ks'})).ts=p.ts:=by cases f<;>rfl
  rw[e1,e2];exact⟨q.ln.1.trans lt.symm,q.ln.2.trans lf.symm⟩
noncomputable def oF (K:W.Frag) (G:Hp) (L:Lb) (a:Addr) (xs:List V):Prop:=(G a=some (.lst xs)/\L a=5)\/(∃o,G a=some (.frz o (.lst xs)))\/∀G',kA K G' a xs
theorem oF.sq {K:W.Frag} {G:Hp} {L:Lb} {a:Addr} {xs:List V} (h:oF K G L a xs):kA K G a xs:=by
 rcases h with h|h|h
 ·exact kA.of h.1
 ·exact .inl (.inr h)
 ·exact h G
theorem oF.zv {K:W.Frag} {S:List Nat} {G G':Hp} {L L':Lb} {a:Addr} {xs:List V} (h:oF K G L a xs) (z:Zv S L L' G G') (h5:5∉S):oF K G' L' a xs:=by
 rcases h with h|⟨o,h⟩|h
 ·exact .inl (z.lst h.1 h.2 (by decide) h5)
 ·exact .inr (.inl ⟨o,z.kz _ _ h (.inl ⟨_,.inr ⟨_,rfl⟩⟩)⟩)
 ·exact .inr (.inr h)
theorem oF.of {K:W.Frag} {G:Hp} {a:Addr} {xs:List V} (h:kA K G a xs):∃L,oF K G L a xs/\Lv L G/\∀c,L c=0\/L c=5:=by
 have z:Lv (λ_=>0) G:=λc hc=>absurd rfl hc;rcases h with (h|h)|h
 ·refine⟨lab (λ_=>0) a 5,.inl ⟨h,rD⟩,z.lab iB h,λc=>?_⟩;by_cases e:c=a
  ·rw[e];exact .inr rD
  ·rw[KC e];exact .inl rfl
 ·exact⟨λ_=>0,.inr (.inl h),z,λ_=>.inl rfl⟩
 ·exact⟨λ_=>0,.inr (.inr λ_=>.inr h),z,λ_=>.inl rfl⟩
theorem Lp.hdl {H:Hp} {L:Lb} {pl fl sl:Addr} {p:St} (h:Lp H L pl fl sl p) {a:Addr} (ha:a∈oE p):∃us,H a=some (.lst us):=by
 obtain⟨r,hr,rfl⟩:=XE.mp ha;rcases List.mem_append.mp hr with hr|hr
 ·obtain⟨i,hi⟩:=List.mem_iff_getElem?.mp hr;have hl:=(List.getElem?_eq_some_iff.mp hi).1;obtain⟨us,_,_,h3⟩:=h.q.hf;obtain⟨_,_,_,_,_,⟨vs,e,_⟩,_⟩:=h3 i _ _ hi (List.getElem?_eq_getElem (by have:=h.q.ln.1;omega));exact⟨vs,e⟩
 ·obtain⟨i,hi⟩:=List.mem_iff_getElem?.mp hr;obtain⟨_,_,_,_,_,_,_,⟨vs,e,_⟩,_⟩:=h.slot hi;exact⟨vs,e⟩
noncomputable def VN (H:Hp) (L:Lb) (p:St) (f:Bool) (j:Nat) (v:V):Prop:=match f with
 |true=>∃r o,p.fr[j]?=some r/\p.tf[j]?=some o/\RF H L v r o
 |false=>∃r o,p.sr[j]?=some r/\p.ts[j]?=some o/\RS H L (UB p.fr) v r o
noncomputable def sp_at:Sp:=λvs H Q _=>∃(pl fl sl t:Addr) (L:Lb) (p:St) (f:Bool) (j:Nat),vs=[.ref pl,.ref t]/\Lp H L pl fl sl p/\H t=some (.tup [.str (mD f),.int (j:Int)])/\j < (p.rw f).length/\∀v,VN H L p f j v->Q v H
theorem vM (T:MB K mg A):HC P w K mg base "_law_at" 1 ["_law_plain","_law_spot"] [] sp_at:=by
 refine T.F7.have AZ (λvs H Q E z=>?_) ?_
 ·obtain⟨pl,fl,sl,t,L,p,f,j,rfl,_⟩:=z;rfl
 ·intro f cdv A' outer s H vs Q E hr z;obtain⟨pl,fl,sl,t,L,p,f,j,rfl,hL,ht,hj,q⟩:=z;refine⟨_,(aB (GB (qB vE (yA oC (aA 1) rA (λ_ _=>rfl)) JD (gA _)) (BA (zB (yA SA (yA SA (aA 0) rA (λ_ _=>rfl)) (yA oC (aA 1) rA (λ_ _=>rfl)) (λ_ _=>rfl)))) XB)
   (BA (zB (yA SA (yA SA (aA 0) rA (λ_ _=>rfl)) (yA oC (aA 1) rA (λ_ _=>rfl)) (λ_ _=>rfl))))),?_⟩
  rfl';obtain⟨us,h1,h2,h3⟩:=hL.q.hf;obtain⟨ws,g1,g2,g3⟩:=hL.q.hs;obtain⟨n1,n2⟩:=hL.q.ln;refine⟨_,cB.of ht,_,rfl,rfl,?_⟩;cases f with
  |true=>
   rw[if_pos (show V.str (mD true)=V.str "frame" from rfl)];have hj:j < p.fr.length:=hj;obtain⟨v,hv1,hv2⟩:=h3 j _ _ (List.getElem?_eq_getElem hj) (List.getElem?_eq_getElem ⋯);exact⟨_,kA.of hL.q.hp,_,xA (j:=0) rfl,_,cB.of ht,_,rfl,fl,rfl,_,j,rfl,kA.of h1,v,xA hv1,q v ⟨_,_,List.getElem?_eq_getElem hj,List.getElem?_eq_getElem ⋯,hv2⟩⟩
  |false=>
   rw[if_neg ∅];have hj:j < p.sr.length:=hj;obtain⟨v,hv1,hv2⟩:=g3 j _ _ (List.getElem?_eq_getElem hj) (List.getElem?_eq_getElem ⋯);exact⟨_,kA.of hL.q.hp,_,xA (j:=1) rfl,_,cB.of ht,_,rfl,sl,rfl,_,j,rfl,kA.of g1,v,xA hv1,q v ⟨_,_,List.getElem?_eq_getElem hj,List.getElem?_eq_getElem ⋯,hv2⟩⟩
theorem NQ {α:Type} {l:List α} {j:Nat} {x:α} (h:l[j]?=some x):l.set j x=l:=by
 obtain⟨h1,h2⟩:=List.getElem?_eq_some_iff.mp h;rw[<-h2];exact List.set_getElem_self h1
theorem NW {fr:List (Option Sh)} {i j:Nat} {r:Option Sh} (h:i≠j):UB (fr.set j r) i=UB fr i:=by unfold UB;rw[List.getElem?_set,if_neg (Ne.symm h)]
theorem OQ {n j:Nat} (h:j < n):AF n (j:Int)=some j:=by unfold AF;rw[if_pos ⋯,if_pos ⋯];rfl
noncomputable def sp_gone:Sp:=λvs H Q _=>∃(pl fl sl t:Addr) (L:Lb) (p:St) (f:Bool) (j:Nat) (r:Sh),vs=[.ref pl,.ref t]/\Lp H L pl fl sl p/\H t=some (.tup [.str (mD f),.int (j:Int)])/\(p.rw f)[j]?=some (some r)/\∀H',Lp H' L pl fl sl (AB p f j)->Mv [1] L L H H'->Q .non H'
theorem SJ (T:MB K mg A):HC P w K mg base "_law_gone" 2 ["_law_plain","_law_spot"] [] sp_gone:=by
 have Cm:=@vM P w K mg base A T;refine T.E8.have ZV (λvs H Q E z=>?_) ?_
 ·obtain⟨pl,fl,sl,t,L,p,f,j,r,rfl,_⟩:=z;rfl
 ·intro f cdv A' outer s H vs Q E hr z;obtain⟨pl,fl,sl,t,L,p,f,j,r,rfl,hL,ht,hj,q⟩:=z;refine⟨_,(aB (mB (i:=2) ZV.nd rfl (Or.inl rfl) (pC Cm (hr.mono (by decide)) ZA (dA (aA 0) (dA (aA 1) nA))))
   (BA (GB (qB vE (yA oC (aA 1) rA (λ_ _=>rfl)) JD (gA _)) (BA (tD lB (sD (yA SA (aA 0) rA (λ_ _=>rfl)) (yA oC (aA 1) rA (λ_ _=>rfl)) uD))) (aB (tD lB (sD (yA SA (aA 0) rA (λ_ _=>rfl)) (yA oC (aA 1) rA (λ_ _=>rfl)) uD))
   (BA (GB (qB MD (yA SA (aA 2) rA (λ_ _=>rfl)) lB (gA _)) (BA (tD lB (sD (yA SA (aA 0) rA (λ_ _=>rfl)) (yA SA (aA 2) rA (λ_ _=>rfl)) uD))) XB)))))),?_⟩
  unfold sp_at;rfl';obtain⟨us,h1,h2,h3⟩:=hL.q.hf;obtain⟨ws,g1,g2,g3⟩:=hL.q.hs;obtain⟨n1,n2⟩:=hL.q.ln;obtain⟨l1,l2,l3⟩:=hL.q.l1;have hjl:=(List.getElem?_eq_some_iff.mp hj).1;refine⟨fl,sl,L,p,hL,f,j,ht,hjl,λv hv=>⟨_,cB.of ht,_,rfl,rfl,?_⟩⟩;cases f with
  |false=>
   rw[if_pos (show V.str (mD false)=V.str "slot" from rfl)];have hj:p.sr[j]?=some (some r):=hj;have hjl:j < p.sr.length:=hjl;have hts:p.ts[j]?=some none:=by
    cases e:p.ts[j]? with
    |none=>exact absurd (List.getElem?_eq_none_iff.mp e) ⋯
    |some o=>cases o with
     |none=>rfl
     |some i=>have:=hL.tw.bare i j e;rw[hj] at this;cases this
   refine⟨_,kA.of hL.q.hp,_,xA (j:=1) rfl,_,cB.of ht,_,rfl,sl,rfl,ws,j,rfl,g1,j,OQ ⋯,q _ ⟨?_,hL.tw.empt (f:=false) hj⟩ (Mv.set g1 (by rw[l3];simp))⟩;have:=hL.q.slot g1 (j:=j) (v:=.non) (r:=none) (o:=none) rfl;rw[NQ hts] at this;exact this
  |true=>
   rw[if_neg ∅];have hj:p.fr[j]?=some (some r):=hj;have hjl:j < p.fr.length:=hjl;obtain⟨r',o,hr',ho,hRF⟩:=hv;rw[hj] at hr';obtain rfl:some r=r':=Option.some.inj hr';obtain⟨rfl,f1,f2,f3,f4,f5,f6⟩:=id hRF;have q1:=hL.q.frame h1 (j:=j) (v:=.non) (r:=none) (o:=none) rfl;have mv1:Mv [1] L L H (upd H fl (.lst (us.set j .non))):=Mv.set h1 (by rw[l2];simp);have f1':upd H fl (.lst (us.set j .non)) r.sh=some (.lst [.ref r.bx,.ref r.hd,oV o]):=mv1.kw _ _ f1 (by rw[f4];simp);refine⟨_,kA.of hL.q.hp,_,xA (j:=0) rfl,_,cB.of ht,_,rfl,fl,rfl,us,j,rfl,h1,j,OQ ⋯,r.sh,rfl,_,kA.of f1',oV o,xA (j:=2) rfl,?_⟩;have hE:=hL.tw.empt (f:=true) hj;cases o with
   |none=>
    rw[if_neg (by simp[oV])];refine q _ ⟨?_,hE⟩ mv1;have e:AB p true j=p.put true j none:=AJ (λk z=>by have z:p.tf[j]?=some (some k):=z;rw[ho] at z;cases z);rw[e];rw[NQ ho] at q1;refine Lq.twins q1 λi2 j2 h9=>?_;have h9:=hL.tw.back i2 j2 h9;have hi:i2≠j:=λe=>by rw[e,ho] at h9;cases h9
    exact NW hi
   |some k=>
    rw[if_pos (by simp[oV])];have hk:=hL.tw.there j k ho;have hb:=hL.tw.bare j k hk;have hkl:=(List.getElem?_eq_some_iff.mp hb).1;have g1':upd H fl (.lst (us.set j .non)) sl=some (.lst ws):=by rw[oA (Ne.symm hL.q.ne.2.2)];exact g1
    have q2:=q1.slot g1' (j:=k) (v:=.non) (r:=none) (o:=none) rfl;have mv2:Mv [1] L L _ _:=mv1.trans (Mv.set (us':=ws.set k .non) g1' (by rw[l3];simp));refine⟨_,kA.of q1.hp,_,xA (j:=1) rfl,r.sh,rfl,_,kA.of f1',_,xA (j:=2) rfl,sl,rfl,ws,k,rfl,g1',k,OQ ⋯,q _ ⟨?_,hE⟩ mv2⟩;have e:AB p true j=((p.put true j none).tie true j none).tie false k none:=fM (show (p.put true j none).tf[j]?=some (some k) from ho);rw[e];rw[NQ hb] at q2;refine Lq.twins q2 λi2 j2 h9=>?_;obtain⟨h9,hne⟩:=nE.mp h9;have h8:=hL.tw.back i2 j2 h9;have hi:i2≠j:=λe=>by
     rw[e,ho] at h8;exact hne (Option.some.inj (Option.some.inj h8)).symm
    exact NW hi
theorem TJ {a b:List (List Key)} (h:a.Perm b):VD a=VD b:=by
 unfold VD;rw[Bool.eq_iff_iff,List.any_eq_true,List.any_eq_true];exact⟨λ⟨x,h1,h2⟩=>⟨x,h.mem_iff.mp h1,h2⟩,λ⟨x,h1,h2⟩=>⟨x,h.mem_iff.mpr h1,h2⟩⟩
noncomputable def wM (s:St) (f:Bool) (j:Nat) (f':Bool) (j':Nat) (r q:Sh):St:=AB (s.put f' j' (some (rC q r.ks))) f j
noncomputable def HD (x:Fs) (p:Bool×Nat):Fs:=match pB x.s p with
 |none=>x
 |some r=>if VD r.ks=true then x else match x.F.find? λe=>decide (e.1=r.b) with
  |none=>{x with F:=x.F++[(r.b,p)]}
  |some e=>match pB x.s e.2 with
   |none=>x
   |some q=>{x with s:=wM x.s p.1 p.2 e.2.1 e.2.2 r q,M:=x.M++[(p,e.2)]}
noncomputable def qA (s:St) (i:Nat):Fs:=((spA s).take i).foldl HD ⟨[],s,[]⟩
theorem c0 {s:St} {i:Nat} {p:Bool×Nat} (h:(spA s)[i]?=some p):qA s (i+1)=HD (qA s i) p:=by
 unfold qA;rw[List.take_add_one,h,List.foldl_append]
 rfl
structure pF (x y:Fs):Prop where
 F:y.F=x.F
 M:y.M=x.M
 s:PB x.s y.s
theorem PB.rw {s p:St} (h:PB s p) (f:Bool):Paired jC (s.rw f) (p.rw f):=by cases f with|true=>exact h.fr|false=>exact h.sr
theorem PB.lk {s p:St} (h:PB s p) (q:Bool×Nat):jC (pB s q) (pB p q):=by
 unfold pB;have hr:=h.rw q.1;have hl:=Paired.length hr;by_cases c:q.2 < (s.rw q.1).length
 ·obtain⟨y,h1,h2⟩:=jE hr (List.getElem?_eq_getElem c);rw[h1,List.getElem?_eq_getElem c];exact h2
 ·rw[List.getElem?_eq_none ⋯,List.getElem?_eq_none ⋯];trivial
theorem PB.put {s p:St} (h:PB s p) {f:Bool} {j:Nat} {a b:Option Sh} (e:jC a b):PB (s.put f j a) (p.put f j b):=by
 cases f with
 |true=>exact⟨cG e j h.fr,h.sr,h.tf,h.ts,h.h⟩
 |false=>exact⟨h.fr,cG e j h.sr,h.tf,h.ts,h.h⟩
theorem PB.untie {s p:St} (h:PB s p) {i:Nat}:PB (Pf.untie s i) (Pf.untie p i):=by
 by_cases c:∃j,s.tf[i]?=some (some j)
 ·obtain⟨j,e⟩:=c;rw[fM e,fM (by rw[h.tf];exact e)];refine⟨h.fr,h.sr,?_,?_,h.h⟩
  ·show p.tf.set i none=s.tf.set i none;rw[h.tf]
  ·show p.ts.set j none=s.ts.set j none;rw[h.ts]
 ·rw[AJ (λj z=>c ⟨j,z⟩),AJ (λj z=>c ⟨j,by rw[h.tf] at z;exact z⟩)];exact h
theorem PB.empt {s p:St} (h:PB s p) {f:Bool} {j:Nat}:PB (AB s f j) (AB p f j):=by
 cases f with
 |true=>exact (h.put (f:=true) (j:=j) (show jC none none from trivial)).untie
 |false=>exact h.put (f:=false) (show jC none none from trivial)
theorem pF.step {x y:Fs} (h:pF x y) (p:Bool×Nat):pF (sC x p) (HD y p):=by
 unfold sC HD;have h1:=h.s.lk p;cases e1:pB x.s p with
 |none=>
  rw[e1] at h1;cases e2:pB y.s p with
  |none=>exact h
  |some w=>rw[e2] at h1;exact h1.elim
 |some r=>
  rw[e1] at h1;cases e2:pB y.s p with
  |none=>rw[e2] at h1;exact h1.elim
  |some w=>
   rw[e2] at h1;obtain⟨hb,hk⟩:=h1;dsimp only;rw[TJ hk,hb,h.F];by_cases c:VD r.ks=true
   ·rw[if_pos c,if_pos c];exact h
   ·rw[if_neg c,if_neg c];cases e3:x.F.find? (λe=>decide (e.1=r.b)) with
    |none=>exact⟨by show _++_=_++_;rfl,h.M,h.s⟩
    |some e=>
     dsimp only;have h3:=h.s.lk e.2;cases e4:pB x.s e.2 with
     |none=>
      rw[e4] at h3;cases e5:pB y.s e.2 with
      |none=>exact⟨h.F,h.M,h.s⟩
      |some w=>rw[e5] at h3;exact h3.elim
     |some q=>
      rw[e4] at h3;cases e5:pB y.s e.2 with
      |none=>rw[e5] at h3;exact h3.elim
      |some v=>
       rw[e5] at h3;exact⟨by first|rfl|exact h.F,by show y.M++_=x.M++_;rw[h.M],PB.empt (h.s.put (show jC (some (rC q (yB r.ks))) (some (rC v w.ks)) from ⟨h3.1,h3.2.append (hk.trans lE.symm)⟩))⟩
theorem PB.spA {s p:St} (h:PB s p):spA p=Pf.spA s:=by
 unfold Pf.spA;rw[Paired.length h.fr,Paired.length h.sr]
theorem OW {s p:St} (h:PB s p):∀i,pF (NA s i) (qA p i):=by
 unfold NA qA;rw[h.spA];generalize Pf.spA s=l;intro i;have go:∀(l:List (Bool×Nat)) (x y:Fs),pF x y->pF (l.foldl sC x) (l.foldl HD y):=λl=>by
  induction l with
  |nil=>intro x y h;exact h
  |cons a l ih=>intro x y h;exact ih _ _ (h.step a)
 exact go _ _ _ ⟨rfl,rfl,h⟩
noncomputable def k1 (k:List Key):V:=match k with
 |x::_=>kV x
 |[]=>.non
theorem d0 {ks:List (List Key)} (tri:∀k∈ks,eC k):RM (V.str "bank") (ks.map k1)=VD ks:=by
 unfold RM VD;rw[List.any_map]
 induction ks with
 |nil=>rfl
 |cons k ks ih=>
  rw[List.any_cons,List.any_cons,ih λx hx=>tri x (List.mem_cons_of_mem _ hx)];congr 1;obtain⟨t,a,b,rfl⟩:=tri k (List.mem_cons_self ..);show UE (kV (.inr t)) (kV (.inr (Str.ofString "bank")))=fG [.inr t,.inl a,.inl b];rw[qV];unfold fG;by_cases e:t=Str.ofString "bank"
  ·subst e;exact (decide_eq_true rfl).trans (decide_eq_true rfl).symm
  ·exact (decide_eq_false (λz=>e (Sum.inr.inj z))).trans (decide_eq_false (λz=>e (Sum.inr.inj (Option.some.inj z)))).symm
theorem i0 {ks:List (List Key)} (tri:∀k∈ks,eC k):(ks.map k1).all JB=true:=by
 rw[List.all_eq_true];intro v hv;obtain⟨k,hk,rfl⟩:=List.mem_map.mp hv;obtain⟨t,a,b,rfl⟩:=tri k hk
 rfl
theorem o0 {K:W.Frag} {a D:Addr} {us:List V} {ks:List (List Key)} {H:Hp} {Q:Hp->Prop} {h:FE (yD 0) tYes (pI (aF K) (CD 0) (tC (V.int 0)))} (hD:H D=none) (ha:H a=some (.lst us)) (hk:Paired (λv k=>∃a,v=V.ref a/\H a=some (.tup (k.map kV))) us ks) (tri:∀k∈ks,eC k) (hl:ks.length<=2000) (q:∀H',iA H H'->H' D=some (.lst (ks.map k1))->Q H'):eF (yD 0) tYes (pI (aF K) (CD 0) (tC (V.int 0))) h (UG K a) [none] D Q H:=by
 have hul:=Paired.length hk;have hz:=PySem.sizeLine_eq;refine GI (xs:=us) (λi ys σ H'=>∃v,σ=[v]/\iA H H'/\ys=(ks.take i).map k1/\H' D=some (.lst ys)) ⟨_,rfl,HB iB hD,rfl,OA⟩ (λi ys σ H' _ ⟨_,_,s2,_⟩=>kA.of (s2 _ _ ha)) (λi v ys σ H' hi=>?_) (λys σ H6=>?_)
 ·rintro⟨v',rfl,s2,rfl,hD2⟩;obtain⟨k,hk1,b,rfl,hb⟩:=jE hk hi;obtain⟨t,a1,b1,rfl⟩:=tri k (List.mem_of_getElem? hk1);have hil:=(List.getElem?_eq_some_iff.mp hk1).1;have htk:ks.take (i+1)=ks.take i++[[.inr t,.inl a1,.inl b1]]:=by rw[List.take_add_one,hk1];rfl
  rfl';refine⟨_,cB.of (s2 _ _ hb),.str t,xA (j:=0) rfl,hD2,by rw[List.length_map,List.length_take];omega,ZC s2 hD,?_⟩;rw[htk,List.map_append]
  rfl
 ·rintro⟨v',rfl,s2,rfl,hD2⟩;rw[hul,List.take_length] at hD2;exact q H6 s2 hD2
theorem VN.say {H:Hp} {L:Lb} {p:St} {f:Bool} {j:Nat} {v:V} (h:VN H L p f j v):
  (pB p (f,j)=none/\(v=.non\/(f=false/\∃a x y i,v=.ref a/\H a=some (.lst [x,y,.int i]))))\/
  ∃r tw,pB p (f,j)=some r/\(p.rw f)[j]?=some (some r)/\v=.ref r.sh/\H r.sh=some (.lst [.ref r.bx,.ref r.hd,oV tw])/\H r.bx=some (.lst (r.b.map V.int))/\FD H r.hd r.ks/\L r.hd=4/\L r.sh=2/\(f=false->tw=none):=by
 cases f with
 |true=>
  obtain⟨r,o,h1,h2,h3⟩:=h;have e:pB p (true,j)=r:=by unfold pB;show (p.fr[j]?).getD none=r;rw[h1];rfl
  cases r with
  |none=>exact .inl ⟨e,.inl h3⟩
  |some r=>obtain⟨e1,q1,q2,q3,q4,_,q6⟩:=h3;exact .inr ⟨r,o,e,h1,e1,q1,q2,q3,q6,q4,λz=>by cases z⟩
 |false=>
  obtain⟨r,o,h1,h2,h3⟩:=h;have e:pB p (false,j)=r:=by unfold pB;show (p.sr[j]?).getD none=r;rw[h1];rfl
  cases r with
  |none=>
   cases o with
   |none=>exact .inl ⟨e,.inl h3⟩
   |some i=>obtain⟨a,x,y,e1,q1,_⟩:=h3;exact .inl ⟨e,.inr ⟨rfl,a,_,_,_,e1,q1⟩⟩
  |some r=>obtain⟨e1,q1,q2,q3,q4,_,q6⟩:=h3;exact .inr ⟨r,none,e,h1,e1,q1,q2,q3,q6,q4,λ_=>rfl⟩
theorem p0:∀(ds:List Dv),GA ds []=true
 |[]=>by simp[GA]
 |_::_=>by simp[GA]
theorem Lp.set5 {G:Hp} {L:Lb} {pl fl sl a:Addr} {p:St} {us us':List V} (h:Lp G L pl fl sl p) (ha:G a=some (.lst us)) (la:L a=5):Lp (upd G a (.lst us')) L pl fl sl p:=⟨h.q.zs (N:=[5]) ((Mv.set (S:=[5]) ha (by rw[la];simp)).zv h.q.lv (by simp)) (by simp) h.q.lv.set,h.tw⟩
theorem Mv.fresh {S:List Nat} {L L':Lb} {H G:Hp} {a:Addr} {o o':HO} (m:Mv S L L' H G) (hH:H a=none) (ha:G a=some o):Mv S L L' H (upd G a o'):=⟨m.lx,λc x hc n=>by rw[oA (BB hc hH)];exact m.kw c x hc n,λc hc=>by
 by_cases e:c=a
 ·rw[e,OA] at hc;cases hc
 ·rw[oA e] at hc;exact m.dm c hc⟩
theorem QW {s:St} {f f':Bool} {j j':Nat} {x:Option Sh} {o:Option Sh} (h:(s.rw f)[j]?=some o) (ne:¬(f'=f/\j'=j)):((s.put f' j' x).rw f)[j]?=some o:=by
 cases f<;>cases f'
 ·show (s.sr.set j' x)[j]?=some o;rw[List.getElem?_set,if_neg (λz=>ne ⟨rfl,z⟩)];exact h
 ·exact h
 ·exact h
 ·show (s.fr.set j' x)[j]?=some o;rw[List.getElem?_set,if_neg (λz=>ne ⟨rfl,z⟩)];exact h
theorem RW {s:St} {f:Bool} {j:Nat} {x:Option Sh} {q:Bool×Nat} {w:Sh} (h:pB (s.put f j x) q=some w):x=some w\/pB s q=some w:=by
 have h1:=ME h;by_cases e:f=q.1/\j=q.2
 ·obtain⟨rfl,rfl⟩:=e;left;cases hq:q.1 with
  |true=>
   rw[hq] at h1;have h1:(s.fr.set q.2 x)[q.2]?=some (some w):=h1;rw[List.getElem?_set] at h1;simp at h1;exact h1.2
  |false=>
   rw[hq] at h1;have h1:(s.sr.set q.2 x)[q.2]?=some (some w):=h1;rw[List.getElem?_set] at h1;simp at h1;exact h1.2
 ·right;cases h2:(s.rw q.1)[q.2]? with
  |some o=>
   have:=QW (x:=x) h2 e;rw[h1] at this;unfold pB;rw[h2,<-Option.some.inj this]
   rfl
  |none=>
   exfalso;have hl:=(List.getElem?_eq_some_iff.mp h1).1;have:((s.put f j x).rw q.1).length=(s.rw q.1).length:=by
    cases f<;>cases q.1<;>simp[St.put,St.rw]
   rw[List.getElem?_eq_none_iff] at h2;omega
theorem SW {s:St} {f:Bool} {j:Nat}:(AB s f j).fr=(s.put f j none).fr/\(AB s f j).sr=(s.put f j none).sr:=by
 cases f with
 |true=>exact⟨YE.1,YE.2.1⟩
 |false=>exact⟨rfl,rfl⟩
theorem UJ {s:St} {f f':Bool} {j j':Nat} {r q0:Sh} {q:Bool×Nat} {w:Sh} (h:pB (wM s f j f' j' r q0) q=some w):(True/\w.ks=q0.ks++r.ks)\/pB s q=some w:=by
 have e:pB (wM s f j f' j' r q0) q=pB ((s.put f' j' (some (rC q0 r.ks))).put f j none) q:=by
  unfold pB wM St.rw;rw[SW.1,SW.2]
 rw[e] at h;rcases RW h with h|h
 ·cases h
 ·rcases RW h with h|h
  ·obtain rfl:rC q0 r.ks=w:=Option.some.inj h;exact .inl ⟨trivial,rfl⟩
  ·exact .inr h
theorem HG {α:Type} {l:List α} {i:Nat} {x:α} (h:l[i]?=some x):l.take (i+1)=l.take i++[x]:=by rw[List.take_add_one,h];rfl
theorem twoways {c D R:Prop} [Decidable c] (h:c->R->D) (r:R):if c then D else R:=by
 by_cases e:c
 ·rw[if_pos e];exact h e r
 ·rw[if_neg e];exact r
noncomputable def tE (F:List (List Int×(Bool×Nat))) (b:List Int):List (Bool×Nat):=(F.filter λe=>decide (e.1=b)).map (·.2)
theorem u0 {F:List (List Int×(Bool×Nat))} {b:List Int}:(tE F b).length<=F.length:=by
 unfold tE;rw[List.length_map];exact List.length_filter_le _ _
theorem x0 {F:List (List Int×(Bool×Nat))} {b:List Int} {k:Nat} {e:List Int×(Bool×Nat)} (h:F[k]?=some e) (c:e.1=b):tE (F.take (k+1)) b=tE (F.take k) b++[e.2]:=by
 unfold tE;rw[HG h,List.filter_append,List.map_append];simp[c]
theorem I0 {F:List (List Int×(Bool×Nat))} {b:List Int} {k:Nat} {e:List Int×(Bool×Nat)} (h:F[k]?=some e) (c:e.1≠b):tE (F.take (k+1)) b=tE (F.take k) b:=by
 unfold tE;rw[HG h,List.filter_append,List.map_append];simp[c]
theorem K0 {b:List Int}:∀{F:List (List Int×(Bool×Nat))},F.find? (λe=>decide (e.1=b))=none->tE F b=[]
 |F,h=>by
  unfold tE;rw[List.filter_eq_nil_iff.mpr (λx hx=>List.find?_eq_none.mp h x hx)]
  rfl
theorem TW {b:List Int} {e:List Int×(Bool×Nat)}:∀{F:List (List Int×(Bool×Nat))},F.find? (λe=>decide (e.1=b))=some e->∃r,tE F b=e.2::r
 |x::F,h=>by
  unfold tE;by_cases c:x.1=b
  ·rw[List.find?_cons,decide_eq_true c] at h;obtain rfl:x=e:=Option.some.inj h;rw[List.filter_cons,if_pos (decide_eq_true c)];exact⟨_,rfl⟩
  ·rw[List.find?_cons,decide_eq_false c] at h;rw[List.filter_cons,if_neg (by simpa using c)];exact TW h
noncomputable def jG (p:Bool×Nat):Dv:=.seq true (EG [.str (mD p.1),.int (p.2:Int)])
theorem UW {K:W.Frag} {H:Hp}:∀{xs:List V} {ps:List (Bool×Nat)},Paired (qD H) xs ps->zA K H (ps.map jG) xs
 |_,_,.nil=>by unfold zA;rfl
 |_,_,.cons ⟨a,e,h⟩ r=>by
  rw[List.map_cons];unfold zA;exact⟨_,_,rfl,by subst e;exact uY (cB.of h) rfl,UW r⟩
theorem VW:∀(ps:List (Bool×Nat)),vA (ps.map jG)<=1
 |[]=>by rw[List.map_nil];unfold vA;omega
 |p::ps=>by
  rw[List.map_cons];unfold vA;have h1:=VW ps;have h2:kB (jG p)=1:=by unfold jG kB;rw[NO]
  omega
theorem Fi.less {s0:St} {i:Nat} {x:Fs} (hfi:Fi s0 i x) {sp:Bool×Nat} {r0:Sh} (e0:pB x.s sp=some r0):r0.ks.length < 640:=by
 have h0m:r0∈JA x.s:=by
  have h9:=ME e0;rw[jD];cases e9:sp.1 with
  |true=>rw[e9] at h9;exact .inl (List.mem_of_getElem? h9)
  |false=>rw[e9] at h9;exact .inr (List.mem_of_getElem? h9)
 have:=hfi.few r0.b;have h9:r0.ks.length<=(((JA x.s).filter λu=>decide (u.b=r0.b)).flatMap Sh.ks).length:=by
  have hm:r0∈(JA x.s).filter λu=>decide (u.b=r0.b):=List.mem_filter.mpr ⟨h0m,decide_eq_true rfl⟩;obtain⟨l1,l2,e9⟩:=List.append_of_mem hm;rw[e9,List.flatMap_append,List.flatMap_cons,List.length_append,List.length_append];omega
 omega
structure AK (H:Hp) (L L':Lb) (pl fl sl l fi mo:Addr) (us:List V) (p:St) (i:Nat) (G:Hp):Prop where
 lp:Lp G L' pl fl sl (qA p i).s
 ap:Ap (qA p i).s
 nk:∀q w,pB (qA p i).s q=some w->w.ks≠[]
 ll:G l=some (.lst us)/\Paired (qD G) us (spA p)
 ff:∃fs,G fi=some (.lst fs)/\Paired (qD G) fs ((qA p i).F.map (·.2))
 mm:∃ms,G mo=some (.lst ms)/\Paired (gG G) ms (qA p i).M
 mv:Mv [1,4] L L' H G
theorem AK.stay {H:Hp} {L L':Lb} {pl fl sl l fi mo:Addr} {us:List V} {p:St} {i:Nat} {G G':Hp} (h:AK H L L' pl fl sl l fi mo us p i G) (s:iA G G') (e:qA p (i+1)=qA p i):AK H L L' pl fl sl l fi mo us p (i+1) G':=by
 obtain⟨fs,f1,f2⟩:=h.ff;obtain⟨ms,m1,m2⟩:=h.mm;exact⟨by rw[e];exact h.lp.same s,by rw[e];exact h.ap,by rw[e];exact h.nk,⟨s _ _ h.ll.1,Paired.mapP h.ll.2 λ_ _ q=>q.same s⟩,⟨fs,s _ _ f1,by rw[e];exact Paired.mapP f2 λ_ _ q=>q.same s⟩,⟨ms,s _ _ m1,by rw[e];exact Paired.mapP m2 λ_ _ q=>q.to λc us hc=>s _ _ hc⟩,h.mv.trans (Mv.of s)⟩
theorem WN {s:St} (h:Fi s 0 ⟨[],s,[]⟩):∀i,i<=(spA s).length->Fi s i (NA s i)
 |0,_=>h
 |i+1,hi=>by
  obtain⟨p,hp⟩:∃p,(spA s)[i]?=some p:=⟨_,List.getElem?_eq_getElem ⋯⟩
  rw[IQ hp];exact (WN h i ⋯).next hp
noncomputable def sp_lfd:Sp:=λvs H Q _=>∃(pl fl sl:Addr) (L:Lb) (s p:St),vs=[.ref pl]/\Lp H L pl fl sl p/\Ap p/\PB s p/\Fi s 0 ⟨[],s,[]⟩/\(∀q w,pB p q=some w->w.ks≠[])/\p.fr.length<=640/\p.sr.length<=640/\∀H' L' mo us,Lp H' L' pl fl sl (qA p (spA p).length).s->Ap (qA p (spA p).length).s->H' mo=some (.lst us)->L' mo=5->Paired (gG H') us (qA p (spA p).length).M->Mv [1,4] L L' H H'->Q (.ref mo) H'
theorem xM (T:MB K mg A):HC P w K mg base "_law_folded" 3 ["_law_plain"] [] sp_lfd:=by
 have Cm:=@vM P w K mg base A T;have Fo:=@SJ P w K mg base A T;refine T.Ew.have lJ (λvs H Q E z=>?_) ?_
 ·obtain⟨pl,fl,sl,L,s,p,rfl,_⟩:=z;rfl
 ·intro f cdv A' outer s H vs Q E hr z;obtain⟨pl,fl,sl,L,s0,p,rfl,hL,hA,hsi,hfi0,hnk,hz1,hz2,q⟩:=z;refine⟨_,(nB (mB (i:=1) lJ.nd rfl (Or.inl rfl) (VA vO (sF rfl (RE rfl T.Ao (dA (DB yC rfl T.Aj PySem.boot_len (dA (yA SA (aA 0) rA (λ_ _=>rfl)) nA)) nA)) (x:="_law_k") (fs:=[]) (ix:=[]) rfl rfl (λ_ _ _ _ _ _=>(wC (i:=0) (show (["_law_k"]:List Str).Nodup by decide+kernel) rfl (Or.inl rfl))) (λ_ _ _ _ _ _=>nG) (λ_ _ _ _ _ _=>(VC (dA JD (dA (aA 0) nA))))) (sF rfl (RE rfl T.Ao (dA (DB yC rfl T.Aj PySem.boot_len (dA (yA SA (aA 0) rA (λ_ _=>rfl)) nA)) nA)) (x:="_law_k") (fs:=[]) (ix:=[]) rfl rfl (λ_ _ _ _ _ _=>(wC (i:=0) (show (["_law_k"]:List Str).Nodup by decide+kernel) rfl (Or.inl rfl))) (λ_ _ _ _ _ _=>nG) (λ_ _ _ _ _ _=>(VC (dA JD (dA (aA 0) nA)))))))
   (aB (mB (i:=2) lJ.nd rfl (Or.inl rfl) (UC nA))
   (aB (mB (i:=3) lJ.nd rfl (Or.inl rfl) (UC nA))
   (nB (rF PassesOwn.leaving rfl (qF (aA 1)) (wC (i:=4) lJ.nd rfl (Or.inl rfl)) (nB (mB (i:=5) lJ.nd rfl (Or.inr rfl) (pC Cm (hr.mono (by decide)) ZA (dA (aA 0) (dA (aA 4) nA))))
   (aB (GB (PW.pt (LK (qB LD (aA 5) lB (gA _)) (JK (PW.pt (QE (qB vE (yA oC (aA 4) rA (λ_ _=>rfl)) JD (gA _)) (OE (qB MD (yA SA (aA 5) rA (λ_ _=>rfl)) lB (gA _)))))))) (BA VT) XB)
   (aB (GB (qB LX JD (sF rfl (qF (yA SA (aA 5) rA (λ_ _=>rfl))) (x:="_law_holder") (fs:=[]) (ix:=[]) rfl rfl (λ_ _ _ _ _ _=>(wC (i:=0) (show (["_law_holder"]:List Str).Nodup by decide+kernel) rfl (Or.inl rfl))) (λ_ _ _ _ _ _=>nG) (λ_ _ _ _ _ _=>(yA (XU (K:=K) rfl) (aA 0) rA (λ_ _=>rfl)))) (by with_unfolding_all rfl)) (BA VT) XB)
   (nB (qL (i:=6) lJ.nd rfl rfl rfl (qF (aA 2)) (x:="_law_other") (fs:=["_law_plain","_law_one"]) (ix:=[0,5]) rfl rfl (λ_ _ _ _ _ _=>(wC (i:=0) (show (["_law_other","_law_plain","_law_one"]:List Str).Nodup by decide+kernel) rfl (Or.inl rfl))) (λ_ _ _ _ _ _=>(FI (qB (mZ (K:=K) (n:=4) rfl (jK hr)) (yA (FG (K:=K) rfl) (pC Cm (hr.mono (by decide)) lH (dA (aA 1) (dA (aA 0) nA))) rA (λ_ _=>rfl)) (yA (FG (K:=K) rfl) (aA 2) rA (λ_ _=>rfl)) (gA _)))) (λ_ _ _ _ _ _=>(aA 0)))
   (BA (GB (qB (JU (n:=4) (jK hr)) (aA 6) (UC nA) (gA _)) (BA (aD (BF PySem.F.plainAttrs_list PySem.F.slot_list_append PySem.F.type_list_append CF (aA 2) (dA (aA 4) nA)))) (aB (aD (BF PySem.F.plainAttrs_list PySem.F.slot_list_append PySem.F.type_list_append CF (aA 3) (dA (VC (dA (aA 4) (dA (yA SA (aA 6) rA (λ_ _=>rfl)) nA))) nA)))
   (aB (aD (BF PySem.F.plainAttrs_list PySem.F.slot_list_extend PySem.F.type_list_extend NX (yA SA (pC Cm (hr.mono (by decide)) ZA (dA (aA 0) (dA (yA SA (aA 6) rA (λ_ _=>rfl)) nA))) rA (λ_ _=>rfl)) (dA (yA SA (aA 5) rA (λ_ _=>rfl)) nA)))
   (BA (aD (pC Fo (hr.mono (by decide)) ZA (dA (aA 0) (dA (aA 4) nA))))))))))))))
   (BA (zB (aA 3))))))),?_⟩
  obtain⟨us1,f1,f2,f3⟩:=hL.q.hf;obtain⟨us2,g1,g2,g3⟩:=hL.q.hs;have hz:=PySem.sizeLine_eq;have hpl:=hL.q.hp;have rgn:∀(b:Bool) (i:Nat),(List.range (i+1)).map (λx=>(b,x))=(List.range i).map (λx=>(b,x))++[(b,i)]:=λb i=>by rw[List.range_succ,List.map_append];rfl
  refine wA (λσ G=>∃l us,σ=[some (.ref pl),some (.ref l),none,none,none,none,none]/\iA H G/\H l=none/\G l=some (.lst us)/\Paired (qD G) us (spA p)) ?_ λU9 D9 hU9 hD9 σ1 G1=>?_
  ·rfl';refine⟨_,kA.of hpl,_,xA (j:=0) rfl,_,.inl ⟨_,kA.of f1,rfl⟩,⋯,⋯,λD hD=>?_⟩;refine DG (λi ys σ H'=>∃v,σ=[v]/\iA H H'/\H' D=some (.lst ys)/\Paired (qD H') ys ((List.range i).map (true,·))) ⟨_,rfl,HB iB hD,OA,.nil⟩ (λi ys σ H' hi=>?_) (λys σ H5=>?_)
   ·rintro⟨v,rfl,s1,hD1,hP⟩;have hyl:=Paired.length hP;rw[List.length_map,List.length_range] at hyl;rfl';intro p hp;rw[Int.zero_add];obtain⟨b1,c1⟩:=FB (o:=.tup [V.str "frame",V.int (i:Int)]) hp;have hD2:=b1 _ _ hD1;generalize upd H' p _=H2 at *;have kp:∀{c o},H2 c=some o->(∀us,o≠.lst us)->upd H2 D (.lst (ys++[V.ref p])) c=some o:=λhc hn=>by rw[oA (bC hc hD2 (λe=>hn _ e))];exact hc
    refine⟨hD2,⋯,ZC (s1.trans b1) hD,?_⟩;rw[rgn];exact JE (Paired.mapP hP λ_ _ ⟨a,e,q⟩=>⟨a,e,kp (b1 _ _ q) (λ_ z=>nomatch z)⟩) ⟨p,rfl,kp c1 (λ_ z=>nomatch z)⟩
   rintro⟨v,rfl,s1,hD1,hP⟩;rw[f2,Int.toNat_natCast] at hP;refine⟨_,kA.of (s1 _ _ hpl),_,xA (j:=1) rfl,_,.inl ⟨_,kA.of (s1 _ _ g1),rfl⟩,⋯,⋯,λD2 hD2=>?_⟩;have ysl:=Paired.length hP;rw[List.length_map,List.length_range] at ysl;refine DG (λi zs σ H'=>∃v,σ=[v]/\iA H5 H'/\H' D2=some (.lst zs)/\Paired (qD H') zs ((List.range i).map (false,·))) ⟨_,rfl,HB iB hD2,OA,.nil⟩ (λi ys σ H' hi=>?_) (λzs σ H6=>?_)
   ·rintro⟨v,rfl,s1,hD1,hP⟩;have hD:=hD2;have hyl:=Paired.length hP;rw[List.length_map,List.length_range] at hyl;rfl';intro p hp;rw[Int.zero_add];obtain⟨b1,c1⟩:=FB (o:=.tup [V.str "slot",V.int (i:Int)]) hp;have hD2:=b1 _ _ hD1;generalize upd H' p _=H2 at *;have kp:∀{c o},H2 c=some o->(∀us,o≠.lst us)->upd H2 D2 (.lst (ys++[V.ref p])) c=some o:=λhc hn=>by rw[oA (bC hc hD2 (λe=>hn _ e))];exact hc
    refine⟨hD2,⋯,ZC (s1.trans b1) hD,?_⟩;rw[rgn];exact JE (Paired.mapP hP λ_ _ ⟨a,e,q⟩=>⟨a,e,kp (b1 _ _ q) (λ_ z=>nomatch z)⟩) ⟨p,rfl,kp c1 (λ_ z=>nomatch z)⟩
   ·rintro⟨v,rfl,s6,hD6,hP6⟩;rw[g2,Int.toNat_natCast] at hP6;have zsl:=Paired.length hP6;rw[List.length_map,List.length_range] at zsl;refine⟨ys,s6 _ _ hD1,zs,hD6,⋯,λp hp=>?_⟩;obtain⟨b7,c7⟩:=FB (o:=.lst (ys++zs)) hp;exact⟨(s1.trans s6).trans b7,NB (s1.trans s6) hp,_,rfl,HQ (Paired.mapP hP λ_ _ h=>h.same (s6.trans b7)) (Paired.mapP hP6 λ_ _ h=>h.same b7)⟩
  rintro⟨l,us,rfl,s1,hl,hl1,hP⟩;subst hU9 hD9;rfl';intro fi hfi mo hmo;obtain⟨b1,c1⟩:=FB (o:=.lst []) hfi;obtain⟨b2,c2⟩:=FB (o:=.lst []) hmo;have c12:=b2 _ _ c1;have hfH:=NB s1 hfi;have hmH:=NB s1 (NB b1 hmo);have nfl:fi≠l:=λe=>by rw[e,hl1] at hfi;cases hfi
  have nmf:mo≠fi:=λe=>by rw[e,c1] at hmo;cases hmo
  have nml:mo≠l:=λe=>by rw[e,b1 _ _ hl1] at hmo;cases hmo
  have s2:=b1.trans b2;have lpA:=((hL.lab (k:=5) s1 hl hl1).lab (k:=5) b1 hfi c1).lab (k:=5) b2 hmo c2;have mvA:Mv [1,4] L _ H _:=((Mv.lab (k:=5) s1 hl).trans (Mv.lab (k:=5) b1 hfi)).trans (Mv.lab (k:=5) b2 hmo);generalize upd (upd G1 fi _) mo _=G2 at *;obtain⟨L0,hL0⟩:∃L0,L0=lab (lab (lab L l 5) fi 5) mo 5:=⟨_,rfl⟩
  have hll:L0 l=5/\L0 fi=5/\L0 mo=5:=by
   rw[hL0];exact⟨by rw[KC (Ne.symm nml),KC (Ne.symm nfl),rD],by rw[KC (Ne.symm nmf),rD],rD⟩
  have hI0:AK H L L0 pl fl sl l fi mo us p 0 G2:=by
   rw[hL0];exact⟨lpA,hA,hnk,⟨s2 _ _ hl1,Paired.mapP hP λ_ _ q=>q.same s2⟩,⟨[],c12,.nil⟩,⟨[],c2,.nil⟩,mvA⟩
  have hspl:(spA p).length=us.length:=(Paired.length hP).symm;refine wA (λσ G=>∃v4 v5 v6,σ=[some (.ref pl),some (.ref l),some (.ref fi),some (.ref mo),v4,v5,v6]/\AK H L L0 pl fl sl l fi mo us p us.length G) ?_ λU9 D9 hU9 hD9 σ2 G9=>?_
  ·rfl';refine⟨⟨_,kA.of (s2 _ _ hl1)⟩,lL (K:=K) (xs:=us) (λi σ G=>∃v4 v5 v6,σ=[some (.ref pl),some (.ref l),some (.ref fi),some (.ref mo),v4,v5,v6]/\AK H L L0 pl fl sl l fi mo us p i G) ⟨_,_,_,rfl,hI0⟩ (λi σ G _ ⟨_,_,_,_,h⟩=>kA.of h.ll.1) (λi v σ G hi=>?_) (λσ G=>?_)⟩
   ·rintro⟨v4,v5,v6,rfl,hI⟩;obtain⟨sp,hp,t,rfl,ht⟩:=jE hI.ll.2 hi;have hil:=(List.getElem?_eq_some_iff.mp hp).1;have hfi:=WN hfi0 i (by rw[<-hsi.spA];omega);have hsf:=OW hsi i;have esucc:=c0 hp;have spl:sp.2 < ((qA p i).s.rw sp.1).length:=by
     have:=List.mem_of_getElem? hp;have a1:=Paired.length hsf.s.fr;have a2:=Paired.length hsf.s.sr;have a3:=Paired.length hsi.fr;have a4:=Paired.length hsi.sr;have a5:=hfi.fr;have a6:=hfi.sr;unfold spA at this;rcases List.mem_append.mp this with h9|h9
     ·obtain⟨y,hy,rfl⟩:=List.mem_map.mp h9;have:=List.mem_range.mp hy;show y < (qA p i).s.fr.length;omega
     ·obtain⟨y,hy,rfl⟩:=List.mem_map.mp h9;have:=List.mem_range.mp hy;show y < (qA p i).s.sr.length;omega
    rfl';refine wA (λσ G'=>∃v,σ=[some (.ref pl),some (.ref l),some (.ref fi),some (.ref mo),some (.ref t),some v,v6]/\G'=G/\VN G L0 (qA p i).s sp.1 sp.2 v) ?_ λU9 D9 hU9 hD9 σ6 G6=>?_
    ·unfold sp_at;rfl';exact⟨fl,sl,L0,(qA p i).s,hI.lp,sp.1,sp.2,ht,spl,λv hv=>hv⟩
    rintro⟨v,rfl,rfl,hv⟩;subst hU9 hD9;rfl';unfold HD at esucc;rcases hv.say with ⟨e,h9⟩|⟨r,tw,e,hrj,rfl,d1,d2,⟨ts,d3,d4⟩,d5,d5b,d6⟩
    ·have e:pB (qA p i).s sp=none:=e;rw[e] at esucc;rcases h9 with rfl|⟨hf,a,x,y,z,rfl,ha⟩
     ·rw[if_pos rfl];unfold tCont;exact⟨_,_,_,rfl,hI.stay iB esucc⟩
     ·rw[if_neg (λz=>nomatch z)];have ht':G6 t=some (.tup [.str (mD false),.int (sp.2:Int)]):=by rw[<-hf];exact ht
      refine⟨_,cB.of ht',_,rfl,rfl,?_⟩;rw[if_pos (show V.str (mD false)=V.str "slot" from rfl)];refine⟨_,rfl,_,kA.of ha,_,xA (j:=2) rfl,?_⟩;rw[if_pos (by simp)];unfold tCont;exact⟨_,_,_,rfl,hI.stay iB esucc⟩
    ·have e:pB (qA p i).s sp=some r:=e;rw[e] at esucc;rw[if_neg (λz=>nomatch z)];refine⟨_,cB.of ht,_,rfl,rfl,?_⟩;refine twoways (λhc hR=>⟨_,rfl,_,kA.of d1,oV tw,xA (j:=2) rfl,?_⟩) ?_
     ·have hf:sp.1=false:=by
       cases e:sp.1 with
       |false=>rfl
       |true=>rw[e] at hc;exact absurd hc ∅
      rw[d6 hf,if_neg (by simp[oV])];exact hR
     have hrm:∃r0,pB (NA s0 i).s sp=some r0/\r.b=r0.b/\r.ks.Perm r0.ks:=by
      have h9:=hsf.s.lk sp;rw[e] at h9;cases e0:pB (NA s0 i).s sp with
      |none=>rw[e0] at h9;exact h9.elim
      |some r0=>rw[e0] at h9;exact⟨r0,rfl,h9⟩
     obtain⟨r0,e0,hb0,hk0⟩:=hrm;have h0m:r0∈JA (NA s0 i).s:=by
      have h9:=ME e0;rw[jD];cases e9:sp.1 with
      |true=>rw[e9] at h9;exact .inl (List.mem_of_getElem? h9)
      |false=>rw[e9] at h9;exact .inr (List.mem_of_getElem? h9)
     have tri:∀k∈r.ks,eC k:=λk hk=>hfi.tri k (List.mem_flatMap.mpr ⟨r0,h0m,hk0.mem_iff.mp hk⟩);have few:r.ks.length < 640:=by rw[hk0.length_eq];exact hfi.less e0
     refine⟨_,rfl,_,kA.of d1,_,xA (j:=1) rfl,_,rfl,⟨_,kA.of d3⟩,λD hD=>o0 hD d3 d4 tri ⋯ λH' s' hD'=>?_⟩;refine⟨_,.inl (kA.of hD'),rfl,i0 tri,?_⟩;rw[if_neg (show ¬(false=true) from Bool.false_ne_true),d0 tri];by_cases c:VD r.ks=true
     ·rw[if_pos c];unfold tCont;refine⟨_,_,_,rfl,hI.stay s' ?_⟩;rw[esucc];exact if_pos c
     rw[if_neg c];have esucc:=esucc.trans (if_neg c);have few2:∀e∈(qA p i).F,∃q,pB (qA p i).s e.2=some q/\q.b=e.1/\e.2.2 < ((qA p i).s.rw e.2.1).length:=λe he=>by
      obtain⟨⟨q0,h1,h2,_⟩,_⟩:=hfi.first e (by rw[<-hsf.F];exact he);have h9:=hsf.s.lk e.2;rw[h1] at h9;cases e1:pB (qA p i).s e.2 with
      |none=>rw[e1] at h9;exact h9.elim
      |some q=>rw[e1] at h9;exact⟨q,rfl,h9.1.trans h2,(List.getElem?_eq_some_iff.mp (ME e1)).1⟩
     obtain⟨fs,f1',f2'⟩:=hI.ff;have f2l:=Paired.length f2';rw[List.length_map] at f2l;have hspn:(spA p).length<=1280:=by
      unfold spA;rw[List.length_append,List.length_map,List.length_map,List.length_range,List.length_range];omega
     have hfl:(qA p i).F.length<=1280:=by
      have h8:=hfi.fl;rw[<-hsf.F] at h8;omega
     refine wA (λσ J=>∃sm xs,σ=[some (.ref pl),some (.ref l),some (.ref fi),some (.ref mo),some (.ref t),some (.ref r.sh),some (.ref sm)]/\iA G6 J/\G6 sm=none/\J sm=some (.lst xs)/\Paired (qD J) xs (tE (qA p i).F r.b)) ?_ λU9 D9 hU9 hD9 σ7 J=>?_
     ·unfold sp_at;rfl';refine⟨⟨_,kA.of (s' _ _ f1')⟩,λD2 hD2=>GI (xs:=fs) (λk ys σ J=>∃v,σ=[v,some (.ref pl),some (.ref r.sh)]/\iA H' J/\J D2=some (.lst ys)/\Paired (qD J) ys (tE ((qA p i).F.take k) r.b)) ⟨_,rfl,HB iB hD2,OA,.nil⟩ (λk ys σ J _ ⟨_,_,e,_⟩=>kA.of (e _ _ (s' _ _ f1'))) (λk v ys σ J hk=>?_) (λys σ J=>?_)⟩
      ·rintro⟨v',rfl,s3,hD3,hP3⟩;obtain⟨sp2,hk1,t2,rfl,ht2⟩:=jE f2' hk;rw[List.getElem?_map] at hk1;obtain⟨en,hk2,rfl⟩:=Option.map_eq_some_iff.mp hk1;obtain⟨q2,hq1,hq2,hq3⟩:=few2 en (List.mem_of_getElem? hk2);have s13:=s'.trans s3;rfl';refine⟨fl,sl,L0,(qA p i).s,hI.lp.same s13,en.2.1,en.2.2,s13 _ _ ht2,hq3,λv hv=>?_⟩;rcases hv.say with ⟨e9,_⟩|⟨q3,tw3,e9,_,rfl,x1,x2,_⟩
       ·have e9:pB (qA p i).s en.2=none:=e9;rw[hq1] at e9;cases e9
       have e9:pB (qA p i).s en.2=some q3:=e9;rw[hq1] at e9;obtain rfl:q2=q3:=Option.some.inj e9;refine⟨_,rfl,_,kA.of x1,_,xA (j:=0) rfl,_,kA.of (s13 _ _ d1),_,xA (j:=0) rfl,?_⟩;unfold CG;refine⟨false,jB q2.b,jB r.b,LU (kA.of x2),LU (kA.of (s13 _ _ d2)),MU _ _,by rw[NU];decide,_,rfl,?_⟩;rw[OU,hq2];have hyl:=Paired.length hP3;have hyl2:=u0 (F:=(qA p i).F.take k) (b:=r.b);rw[List.length_take] at hyl2;by_cases c3:en.1=r.b
       ·rw[if_pos (decide_eq_true c3),x0 hk2 c3];refine⟨hD3,⋯,ZC s3 hD2,?_⟩;have kp:∀{c us},J c=some (.tup us)->upd J D2 (.lst (ys++[V.ref t2])) c=some (.tup us):=λhc=>by rw[oA (bC hc hD3 (λz=>nomatch z))];exact hc
        exact JE (Paired.mapP hP3 λ_ _ ⟨a,e,q⟩=>⟨a,e,kp q⟩) ⟨t2,rfl,kp (s13 _ _ ht2)⟩
       ·rw[if_neg (by rw[decide_eq_false c3];simp),I0 hk2 c3];exact⟨s3,hD3,hP3⟩
      ·rintro⟨v',rfl,s3,hD3,hP3⟩;rw[f2l,List.take_length] at hP3;exact⟨s'.trans s3,NB s' hD2,ys,hD3,hP3⟩
     rintro⟨sm,xs,rfl,s3,hsm,hsm3,hP3⟩;subst hU9 hD9;unfold sp_at sp_gone CG;rfl';intro e1 he1;obtain⟨b3,c3⟩:=FB (o:=.lst []) he1;generalize upd J e1 _=J1 at *;have sJ:=s3.trans b3;have hsm1:=b3 _ _ hsm3;have hP1:Paired (qD J1) xs (tE (qA p i).F r.b):=Paired.mapP hP3 λ_ _ q=>q.same b3;refine⟨false,(tE (qA p i).F r.b).map jG,(by unfold vB;exact⟨sm,xs,rfl,by rw[if_neg Bool.false_ne_true];exact kA.of hsm1,UW hP1⟩),[],(by unfold vB;exact⟨e1,[],rfl,by rw[if_neg Bool.false_ne_true];exact kA.of c3,by unfold zA;rfl⟩),p0 _,Nat.le_trans (VW _) (by decide),?_⟩;obtain⟨ms,m1,m2⟩:=hI.mm;have lp1:=hI.lp.same sJ;cases ef:(qA p i).F.find? (λe=>decide (e.1=r.b)) with
     |none=>
      rw[ef] at esucc;have esucc:qA p (i+1)={qA p i with F:=(qA p i).F++[(r.b,sp)]}:=esucc;rw[K0 ef,if_pos (by rw[List.map_nil];simp[IA])];refine⟨.inl ⟨rfl,_,kA.of (sJ _ _ f1')⟩,fs,sJ _ _ f1',⋯,?_⟩;have kp:∀{c us},J1 c=some (.tup us)->upd J1 fi (.lst (fs++[V.ref t])) c=some (.tup us):=λhc=>by rw[oA (bC hc (sJ _ _ f1') (λz=>nomatch z))];exact hc
      refine⟨by rw[esucc];exact lp1.set5 (sJ _ _ f1') hll.2.1,by rw[esucc];exact hI.ap,by rw[esucc];exact hI.nk,⟨by rw[oA (Ne.symm nfl)];exact sJ _ _ hI.ll.1,Paired.mapP hI.ll.2 λ_ _ ⟨a,e,q⟩=>⟨a,e,kp (sJ _ _ q)⟩⟩,⟨_,OA,?_⟩,⟨ms,by rw[oA nmf];exact sJ _ _ m1,by rw[esucc];exact Paired.mapP m2 λ_ _ q=>q.to λc us hc=>kp (sJ _ _ hc)⟩,(hI.mv.trans (Mv.of sJ)).fresh hfH (sJ _ _ f1')⟩;rw[esucc];show Paired _ _ (List.map _ ((qA p i).F++[(r.b,sp)]));rw[List.map_append];exact JE (Paired.mapP f2' λ_ _ ⟨a,e,q⟩=>⟨a,e,kp (sJ _ _ q)⟩) ⟨t,rfl,kp (sJ _ _ ht)⟩
     |some e2=>
      rw[ef] at esucc;obtain⟨rs,ers⟩:=TW ef;rw[ers] at hP1 ⊢;rw[if_neg (by rw[List.map_cons];simp[IA])];obtain⟨q2,hq1,hq2,hq3⟩:=few2 e2 (List.mem_of_find?_eq_some ef);obtain⟨xs',t2,rfl,ht2⟩:∃xs' t2,xs=.ref t2::xs'/\J1 t2=some (.tup [.str (mD e2.2.1),.int (e2.2.2:Int)]):=by
       cases hP1 with
       |cons h1 h2=>obtain⟨a,e,h⟩:=h1;subst e;exact⟨_,_,rfl,h⟩
      refine⟨.inl ⟨rfl,_,kA.of (sJ _ _ m1)⟩,_,kA.of hsm1,_,xA (j:=0) rfl,λp2 hp2=>?_⟩;obtain⟨b4,c4⟩:=FB (o:=.tup [V.ref t,V.ref t2]) hp2;generalize upd J1 p2 _=J2 at *;have sJ2:=sJ.trans b4;have m12:=sJ2 _ _ m1;have ml:ms.length < 16777216:=by
       have:=Paired.length m2;have h8:=hfi.ml;rw[<-hsf.M] at h8;omega
      refine⟨ms,m12,ml,?_⟩;have kp:∀{c us},J2 c=some (.tup us)->upd J2 mo (.lst (ms++[V.ref p2])) c=some (.tup us):=λhc=>by rw[oA (bC hc m12 (λz=>nomatch z))];exact hc
      have nsm:mo≠sm:=λe=>by rw[<-e,m1] at hsm;cases hsm
      have lp3:=(lp1.same b4).set5 (us':=ms++[V.ref p2]) m12 hll.2.2;have hsm4:upd J2 mo (.lst (ms++[V.ref p2])) sm=some (.lst (V.ref t2::xs')):=by rw[oA (Ne.symm nsm)];exact b4 _ _ hsm1
      refine⟨_,kA.of hsm4,_,xA (j:=0) rfl,fl,sl,t2,rfl,L0,_,lp3,e2.2.1,e2.2.2,kp (b4 _ _ ht2),hq3,λv hv=>?_⟩;rcases hv.say with ⟨e9,_⟩|⟨q3,tw3,e9,hq9,rfl,x1,x2,⟨ts2,x3,x4⟩,x5,x5b,_⟩
      ·have e9:pB (qA p i).s e2.2=none:=e9;rw[hq1] at e9;cases e9
      have e9:pB (qA p i).s e2.2=some q3:=e9;rw[hq1] at e9;obtain rfl:q2=q3:=Option.some.inj e9;have esucc:qA p (i+1)={qA p i with s:=wM (qA p i).s sp.1 sp.2 e2.2.1 e2.2.2 r q2,M:=(qA p i).M++[(sp,e2.2)]}:=by
       have:=esucc;dsimp only at this;rw[hq1] at this;exact this
      have apart:¬(e2.2.1=sp.1/\e2.2.2=sp.2):=λz=>by
       obtain⟨_,a,ha,e8⟩:=hfi.first e2 (by rw[<-hsf.F];exact List.mem_of_find?_eq_some ef);have ep:e2.2=sp:=Prod.ext z.1 z.2;rw[ep,<-hsi.spA] at e8;obtain⟨y1,y2⟩:=List.getElem?_eq_some_iff.mp e8;obtain⟨y3,y4⟩:=List.getElem?_eq_some_iff.mp hp;exact (List.pairwise_iff_getElem.mp (TN (s:=p))) a i y1 y3 ha (y2.trans y4.symm)
      have d3':upd J2 mo (.lst (ms++[V.ref p2])) r.hd=some (.lst ts):=by rw[oA (λe=>by rw[e,hll.2.2] at d5;cases d5)];exact sJ2 _ _ d3
      have d1':upd J2 mo (.lst (ms++[V.ref p2])) r.sh=some (.lst [.ref r.bx,.ref r.hd,oV tw]):=by rw[oA (λe=>by rw[e,hll.2.2] at d5b;cases d5b)];exact sJ2 _ _ d1
      have hk2l:=Paired.length x4;have hk1l:=Paired.length d4;have few3:q2.ks.length < 640:=by
       have h9:=hsf.s.lk e2.2;rw[hq1] at h9;cases e0:pB (NA s0 i).s e2.2 with
       |none=>rw[e0] at h9;exact h9.elim
       |some r5=>
        rw[e0] at h9;rw[h9.2.length_eq];exact hfi.less e0
      refine⟨_,rfl,_,kA.of x1,_,xA (j:=1) rfl,.inl ⟨rfl,_,kA.of x3⟩,_,kA.of d1',_,xA (j:=1) rfl,?_⟩;unfold rExtend;refine⟨q2.hd,r.hd,ts2,ts,rfl,rfl,x3,d3',⋯,?_⟩;have lp4:=Lp.ks (f:=e2.2.1) (j:=e2.2.2) (ks':=q2.ks++r.ks) (us':=ts2++ts) lp3 hI.ap hq9 (hI.nk _ _ hq1) (HQ x4 (Paired.mapP d4 λ_ _ ⟨a,e,q⟩=>⟨a,e,kp (sJ2 _ _ q)⟩));have mv4:Mv [1,4] L L0 H (upd (upd J2 mo (.lst (ms++[V.ref p2]))) q2.hd (.lst (ts2++ts))):=((hI.mv.trans (Mv.of sJ2)).fresh hmH m12).trans (Mv.set x3 (by rw[x5];simp));have kq:∀{c o},upd J2 mo (.lst (ms++[V.ref p2])) c=some o->L0 c≠4->upd (upd J2 mo (.lst (ms++[V.ref p2]))) q2.hd (.lst (ts2++ts)) c=some o:=λhc h4=>by rw[oA (λe=>h4 (by rw[e];exact x5))];exact hc
      have kt:∀{c us},J2 c=some (.tup us)->upd (upd J2 mo (.lst (ms++[V.ref p2]))) q2.hd (.lst (ts2++ts)) c=some (.tup us):=λhc=>by rw[oA (bC (kp hc) x3 (λz=>nomatch z))];exact kp hc
      refine⟨fl,sl,L0,_,lp4,sp.1,sp.2,kt (sJ2 _ _ ht),r,?_,λH9 lp9 mv9=>?_⟩
      ·exact QW hrj apart
      have kh:∀{c o},upd (upd J2 mo (.lst (ms++[V.ref p2]))) q2.hd (.lst (ts2++ts)) c=some o->L0 c≠1->H9 c=some o:=λhc h1=>mv9.kw _ _ hc (by simpa using h1);have lt:∀{c us},J2 c=some (.tup us)->L0 c≠1:=λhc h1=>by
       obtain⟨us9,h9⟩:=lp4.q.lv _ (show L0 _≠0 by rw[h1];decide);rw[kt hc] at h9;cases h9
      have kt9:∀{c us},J2 c=some (.tup us)->H9 c=some (.tup us):=λhc=>kh (kt hc) (lt hc);have k5:∀{c us},G6 c=some (.lst us)->c≠mo->L0 c=5->H9 c=some (.lst us):=λhc hn h5=>kh (kq (by rw[oA hn];exact sJ2 _ _ hc) (by rw[h5];decide)) (by rw[h5];decide);refine⟨by rw[esucc];exact lp9,by rw[esucc];exact zW (xQ (r':=rC q2 r.ks) hI.ap hq9 rfl),?_,⟨k5 hI.ll.1 (Ne.symm nml) hll.1,Paired.mapP hI.ll.2 λ_ _ ⟨a,e,q⟩=>⟨a,e,kt9 (sJ2 _ _ q)⟩⟩,⟨fs,k5 f1' (Ne.symm nmf) hll.2.1,by rw[esucc];exact Paired.mapP f2' λ_ _ ⟨a,e,q⟩=>⟨a,e,kt9 (sJ2 _ _ q)⟩⟩,⟨ms++[V.ref p2],kh (kq OA (by rw[hll.2.2];decide)) (by rw[hll.2.2];decide),?_⟩,mv4.trans (mv9.sub (by simp))⟩
      ·rw[esucc];intro q w hw;rcases UJ hw with ⟨_,e7⟩|e7
       ·rw[e7];exact λz=>hI.nk _ _ hq1 (List.append_eq_nil_iff.mp z).1
       ·exact hI.nk q w e7
      ·rw[esucc];show Paired _ _ ((qA p i).M++[(sp,e2.2)]);refine JE (Paired.mapP m2 λ_ _ q=>q.to λc us hc=>kt9 (sJ2 _ _ hc)) ⟨p2,t,t2,rfl,kt9 c4,⟨t,rfl,kt9 (sJ2 _ _ ht)⟩,⟨t2,rfl,kt9 (b4 _ _ ht2)⟩⟩
   ·rintro⟨v4,v5,v6,rfl,hI⟩;exact⟨v4,v5,v6,rfl,hI⟩
  rintro⟨v4,v5,v6,rfl,hI⟩;subst hU9 hD9;rfl';obtain⟨ms,m1,m2⟩:=hI.mm;rw[<-hspl] at hI m2;exact q _ L0 mo ms hI.lp hI.ap m1 hll.2.2 m2 hI.mv
noncomputable def VJ (A:UD):Sp:=λvs H Q _=>∃(z:Ss) (s:St) (L:Lb) (pl fl sl sh0 h mk:Addr) (p:St) (bs:List Int) (k:List Key) (ms:List Bool),vs=[.ref z.p,.ref pl,.ref sh0,.ref h,.ref mk]/\Cx A H z s L pl fl sl p/\Ap p/\wB s < room s/\H sh0=some (.lst (bs.map V.int))/\L sh0=3/\bs.length<=640/\H h=some (.tup (k.map kV))/\eC k/\H mk=some (.lst (ms.map V.bl))/\L mk=5/\ms.length=s.fr.length/\
 ∀H' L' (s1 p1:St) (i:Nat) ps out (r w:Sh),gD s none ms s1 i ps out->r.b=bs->r.ks=[k]->w.ks=[k]->Cx A H' z {s1 with fr:=s1.fr.set i (some r)} L' pl fl sl {p1 with fr:=p1.fr.set i (some w)}->Ap {p1 with fr:=p1.fr.set i (some w)}->i < s1.fr.length->i < p1.fr.length->Zv [1,2,4] L L' H H'->Q (.int (i:Int)) H'
theorem yM (T:MB K mg A):HC P w K mg base "_law_fresh" 8 ["_law_sheets","_law_plain","_law_sheet","_law_holder","_law_marks"] [] (VJ A):=by
 have D3:=@JW P w K mg base A T;have D4:=@IZ P w K mg base A T;refine (T.Ez).have aW (λvs H Q E z=>?_) ?_
 ·obtain⟨z,s,L,pl,fl,sl,sh0,h,mk,p,bs,k,ms,rfl,_⟩:=z;rfl
 ·intro f cdv A' outer s H vs Q E hr z;obtain⟨z,s,L,pl,fl,sl,sh0,h,mk,p,bs,k,ms,rfl,hC,hAp,hroom,sh4,l4s,hbl,hh,htri,mk4,l4m,hml,q⟩:=z;have hlen:=hC.len;have h64:=hC.ss.len;have z4:Zv [1,2,4] L L H H:=Zv.of iB;have hz:=PySem.sizeLine_eq;refine⟨_,(nB (aD (QD (aA 0) T.Ab D4 (hr.mono (by decide)) ZA (dA (cK fL rfl T.Bd PyProof.Rows.boot_list (dA (aA 2) nA)) (dA (aA 3) (dA (aA 4) nA)))))
   (nB (mB (i:=5) aW.nd rfl (Or.inl rfl) (yA oC (pC D3 (hr.mono (by decide)) ZA (dA (aA 1) (dA (aA 4) (dA rA nA)))) rA (λ_ _=>rfl)))
   (nB (tD (UC (dA (aA 2) (dA (UC (dA (aA 3) nA)) (dA lB nA)))) (sD (yA SA (aA 1) rA (λ_ _=>rfl)) (aA 5) uD))
   (BA (zB (aA 5)))))),?_⟩
  refine wA (λσ G'=>∃s1 i ps out r,σ=[some (.ref z.p),some (.ref pl),some (.ref sh0),some (.ref h),some (.ref mk),none]/\gD s none (ms) s1 i ps out/\lA A.Aa A.Ad A.Ac G' z {s1 with fr:=s1.fr.set i (some r)}/\Ap {s1 with fr:=s1.fr.set i (some r)}/\Tw {s1 with fr:=s1.fr.set i (some r)}/\r.b=bs/\r.ks=[k]/\H r.bx=none/\Ks z H G') ?_ λU9 D9 hU9 hD9 σ5 G5=>?_
  ·obtain⟨dx9,h9⟩:=hC.ss.me;rfl';refine⟨dx9,_,h9,EC ∅,_,.inl (kA.of sh4),λl hl=>?_⟩;obtain⟨b1,c1⟩:=FB (o:=.lst (bs.map V.int)) hl;have b12:=b1;refine⟨z,s,l,h,mk,bs,k,ms,rfl,hC.ss.same b12,hC.ap,hC.tw,c1,hC.ss.nf hl,b1 _ _ hh,b12 _ _ mk4,⋯,λr hr=>(hC.ok r (.inl hr)).1,?_⟩;rw[if_pos hroom];intro H' s1 i ps out t e v3 r a1 a2 a3 a4 a5 a6 a7 a8 a9 a10 a11 a12;exact⟨s1,i,ps,out,a1,r,a2,a3,a4,a5,a6,NB b12 a7,(Ks.of b12).trans a12⟩
  rintro⟨s1,i,ps,out,r,rfl,hF,S5,A5,T5,hrb,hrk,hrx,k5⟩;subst hU9 hD9;have lr0:L r.bx=0:=Decidable.byContradiction λe=>by
   obtain⟨us,h⟩:=hC.lp.q.lv _ e;rw[hrx] at h;cases h
  have pm:=hF.alsF (r:=r) hC.tw;have mem5:∀q,some q∈s1.fr.set i (some r)\/some q∈s1.sr->q=r\/some q∈s.fr\/some q∈s.sr:=λq hq=>(List.mem_cons.mp (pm.mem_iff.mp (jD.mpr (show some q∈({s1 with fr:=s1.fr.set i (some r)}:St).fr\/some q∈({s1 with fr:=s1.fr.set i (some r)}:St).sr from hq)))).imp id jD.mp;have z5:Zv [] L L H G5:=Zv.ks hC.ss S5 k5.kd hC.l0 hC.lp.q.lv (k5.dm hC.ss S5);have lp5:=hC.lp.zv z5 (hC.lp.q.lv.zv z5);have cs5:Cs A G5 z {s1 with fr:=s1.fr.set i (some r)} L:=⟨S5,hC.l0,λq hq=>(mem5 q hq).elim (λe=>by rw[e];exact lr0) (hC.lb q)⟩
  have hB5:Bx {s1 with fr:=s1.fr.set i (some r)}:=by
   refine (pm.map Sh.bx).nodup_iff.mpr (List.nodup_cons.mpr ⟨λhx=>?_,hC.bx⟩);obtain⟨q,hq,e⟩:=List.mem_map.mp hx;have:=hC.ss.bxl (jD.mp hq);rw[e,hrx] at this;cases this
  have hok5:∀q,some q∈s1.fr.set i (some r)\/some q∈s1.sr->IE q/\q.ks≠[]/\q.b.length<=640:=λq hq=>by
   rcases mem5 q hq with e|e
   ·rw[e];unfold IE;rw[hrk,hrb];exact⟨⟨by show 1 < 640;decide,by simp,λk' hk=>by rw[List.mem_singleton.mp hk];exact htri⟩,by simp,hbl⟩
   ·exact hC.ok q e
  have mk5:=(z5.lst mk4 l4m (by decide) (by simp)).1;have sh5:=(z5.lst sh4 l4s (by decide) (by simp)).1;have z05:Zv [1,2,4] L L H G5:=z4.trans (z5.sub (by simp));refine wA (λσ G'=>∃L6 p1 ps' out',σ=[some (.ref z.p),some (.ref pl),some (.ref sh0),some (.ref h),some (.ref mk),some (.int (i:Int))]/\iG p (some 0) (ms) p1 i ps' out'/\PB s1 p1/\Lp G' L6 pl fl sl p1/\Mv [1,2] L L6 G5 G') ?_ λU9 D9 hU9 hD9 σ6 G6=>?_
  ·rfl';have hhh:=hC.ss.hh;refine⟨pl,fl,sl,mk,L,p,some 0,ms,rfl,lp5,mk5,by rw[l4m];decide,⋯,by rw[hC.si.h];omega,⋯,⋯,hC.okf,λe9 i9=>?_,λH' L' p1 i' ps' out' t e v3 a1 a2 a3 a4 a5 a6 a7 a8=>?_⟩
   ·rw[hC.si.slot,hlen.2];rw[hC.si.emf] at e9;obtain⟨j,x1,x2⟩:=vQ hC.tw hC.ss.lens.1 hC.ss.lens.2 hroom e9 (i:=i9) (c:=none);exact⟨j,MQ x1,x2⟩
   ·obtain⟨rfl,rfl,hsim,_⟩:=hC.si.ffr hC.tw hC.lp.tw hF a1 λ_ _ h=>MQ h;exact⟨t,rfl,_,cB.of a4,.int i,xA (j:=0) rfl,rfl,L',p1,ps,out',a1,hsim,a2,a3⟩
  rintro⟨L6,p1,ps',out',rfl,hFl,hsim,lp6,m6⟩;subst hU9 hD9;obtain⟨f1,f2,f3,f4,f5⟩:=hFl.facts hC.lp.tw;have cs6:=cs5.mv m6 lp5.q.lv (by simp);have sh6:G6 sh0=_:=m6.kw _ _ sh5 (by rw[l4s];decide);have l6s:L6 sh0=3:=by rw[m6.lx.at sh5];exact l4s
  have hil1:=(List.getElem?_eq_some_iff.mp f1).1;have hln6:=lp6.q.ln;have z06:Zv [1,2,4] L L6 H G6:=z05.trans ((m6.zv lp5.q.lv (by simp)).sub (by simp));have A6:Ap p1:=by
   refine (hFl.hd λj q e=>?_).nodup_iff.mpr hAp;rcases hFl with ⟨_,_,_,rfl⟩|⟨hem,q2,j2,_,_,_,x4,x5,_,rfl⟩
   ·cases e
   ·cases e;rw[hC.si.slot] at x4;rw[hC.si.emf] at hem;obtain⟨j9,y1,_⟩:=vQ hC.tw hC.ss.lens.1 hC.ss.lens.2 hroom hem (i:=i) (c:=none);have y2:=MQ (c:=some 0) y1;rw[x4] at y2;obtain rfl:=Option.some.inj y2;rcases ZL hC.tw y1 with h|⟨h,_⟩
    ·obtain⟨y,hy1,hy2⟩:=jE hC.si.sr h;cases y with
     |none=>exact hy1
     |some _=>exact hy2.elim
    ·cases h
  refine wA (λσ G'=>∃L7 w7,σ=[some (.ref z.p),some (.ref pl),some (.ref sh0),some (.ref h),some (.ref mk),some (.int (i:Int))]/\Cx A G' z {s1 with fr:=s1.fr.set i (some r)} L7 pl fl sl {p1 with fr:=p1.fr.set i (some w7)}/\Ap {p1 with fr:=p1.fr.set i (some w7)}/\w7.ks=[k]/\Zv [1,2,4] L L7 H G') ?_ λU9 D9 hU9 hD9 σ7 G7=>?_
  ·rfl';intro ha hha ra hra;have q61:=lp6;have m61:Mv [1,2] L6 L6 G6 G6:=Mv.of iB;have sh61:=sh6;have c1:G6 h=some (.tup (k.map kV)):=m6.kw _ _ (z5.tup hh) (by rw[lp5.q.lv.zero (z5.tup hh) λ_ z=>nomatch z];decide);obtain⟨b2,c2⟩:=FB (o:=.lst [V.ref h]) hha;have hnin:ha∉oE p1:=λz9=>by obtain⟨us,h⟩:=q61.hdl z9;rw[hha] at h;cases h
   have q62:=q61.new (k:=4) (us:=[V.ref h]) hha;have m62:Mv [1,2] L6 (lab L6 ha 4) G6 (upd G6 ha (.lst [V.ref h])):=Mv.new hha;have l62:lab L6 ha 4 ha=4:=rD;have l62s:lab L6 ha 4 sh0=3:=by rw[KC (BB sh61 hha)];exact l6s
   have sh62:=b2 _ _ sh61;have c12:=b2 _ _ c1;generalize upd G6 ha _=G62 at *;generalize lab L6 ha 4=L62 at *;obtain⟨b3,c3⟩:=FB (o:=.lst [V.ref sh0,V.ref ha,V.non]) hra;have q63:=q62.new (k:=2) (us:=[V.ref sh0,V.ref ha,V.non]) hra;have m63:Mv [1,2] L62 (lab L62 ra 2) G62 (upd G62 ra (.lst [V.ref sh0,V.ref ha,V.non])):=Mv.new hra;have nl3:∀{c us k},G62 c=some (.lst us)->L62 c=k->lab L62 ra 2 c=k:=λhc hk=>by rw[KC (BB hc hra)];exact hk
   have hR:RF (upd G62 ra (.lst [V.ref sh0,V.ref ha,V.non])) (lab L62 ra 2) (.ref ra) (some ⟨bs,[k],ra,sh0,ha⟩) none:=⟨rfl,c3,b3 _ _ sh62,⟨[V.ref h],b3 _ _ c2,.cons ⟨h,rfl,b3 _ _ c12⟩ .nil⟩,rD,nl3 sh62 l62s,nl3 c2 l62⟩
   generalize upd G62 ra _=G63 at *;generalize lab L62 ra 2=L63 at *;obtain⟨us3,hf3,hul3,_⟩:=q63.q.hf;have q7:=q63.q.frame (j:=i) hf3 hR;have m7:Mv [1,2] L6 L63 G6 (upd G63 fl (.lst (us3.set i (.ref ra)))):=((m61.trans m62).trans m63).trans (Mv.set hf3 (by rw[q63.q.l1.2.1];simp));refine⟨_,kA.of q63.q.hp,_,xA (j:=0) rfl,fl,rfl,us3,hf3,i,pD ⋯,L63,⟨bs,[k],ra,sh0,ha⟩,?_,?_,rfl,z06.trans ((m7.zv lp6.q.lv (by simp)).sub (by simp))⟩
   ·have cs7:=cs6.mv m7 lp6.q.lv (by simp);have etf:p1.tf.set i none=p1.tf:=by
     obtain⟨o9,ho9⟩:∃o,p1.tf[i]?=some o:=⟨_,List.getElem?_eq_getElem ⋯⟩
     cases o9 with
     |some b=>exact absurd ho9 (f4 b)
     |none=>
      obtain⟨x1,x2⟩:=List.getElem?_eq_some_iff.mp ho9;rw[<-x2,List.set_getElem_self]
    rw[etf] at q7;refine⟨cs7.ss,A5,T5,hB5,cs7.l0,cs7.lb,⟨q7.twins λi2 j2 h2=>?_,lp6.tw.fill f4⟩,⟨cG (show jC (some r) (some _) from ⟨hrb.symm,by rw[hrk]⟩) i hsim.fr,hsim.sr,hsim.tf,hsim.ts,hsim.h⟩,hok5⟩;show UB (p1.fr.set i _) i2=UB p1.fr i2;unfold UB;rw[List.getElem?_set,if_neg (λe=>f4 j2 (by rw[e];exact lp6.tw.back i2 j2 h2))]
   ·unfold Ap;show (SB (p1.fr.set i (some ⟨_,_,ra,sh0,ha⟩)++p1.sr)).Nodup;rw[SC];refine ((dG (r:=⟨_,_,ra,sh0,ha⟩) f1).append_right _).nodup_iff.mpr ?_;have e8:oE p1=SB p1.fr++SB p1.sr:=SC;have A6':(oE p1).Nodup:=A6;rw[e8] at hnin A6';exact List.nodup_cons.mpr ⟨hnin,A6'⟩
  rintro⟨L7,w7,rfl,C7,A7,hw7,z7⟩;subst hU9 hD9;rfl';exact q G7 L7 s1 p1 i ps out r w7 hF hrb hrk hw7 C7 A7 (by have:=(hF.facts hC.tw).1;exact (List.getElem?_eq_some_iff.mp this).1) hil1 z7
noncomputable def twO (out:Option (Nat×Sh)) (j:Nat):Option Nat:=if out.map (·.1)=some j then none else some j
theorem WW {fr sr:List (Option Sh)} {i j:Nat} {c c':Sh} (hi:fr[i]?=some none) (hc:sr[j]?=some (some c)) (e:c'.hd=c.hd):(SB (fr.set i (some c')++sr.set j none)).Perm (SB (fr++sr)):=by
 rw[SC,SC];refine ((dG (r:=c') hi).append_right _).trans (List.Perm.trans ?_ ((QH hc).append_left _).symm);rw[e];exact List.perm_middle.symm
theorem iG.apB {p p1:St} {ms:List Bool} {i j:Nat} {ps:List Int} {out:Option (Nat×Sh)} {c c':Sh} (h:iG p (some j) ms p1 i ps out) (hT:Tw p) (hA:Ap p) (hc:p.sr[j]?=some (some c)) (e:c'.hd=c.hd):Ap (gB p1 i j c' out):=by
 obtain⟨b1,b2,_⟩:=wJ (s1:=p1) (i:=i) (j:=j) (c:=c') (out:=out);obtain⟨f1,_⟩:=h.facts hT;unfold Ap;rw[b1,b2];have h0:=h;rcases h with ⟨h1,rfl,_,rfl⟩|⟨h1,q,j2,a,hsw,hq,hsf,hj,rfl,rfl⟩
 ·rw[if_neg (λz=>by cases z)];exact (WW f1 hc e).nodup_iff.mpr hA
 ·obtain⟨e1,e2,_⟩:=eG (s:={p with h:=(i+1) % p.fr.length}) (i:=i) (j:=j2) (r:={q with sh:=a});by_cases e9:j2=j
  ·subst e9;rw[if_pos (show Option.map (λx:Nat×Sh=>x.1) (some (j2,q))=some j2 from rfl),e2,SC];rw[e1] at f1 ⊢;have x2:(SB (p.sr.set j2 (some {q with sh:=a}))).Perm (q.hd::SB (p.sr.set j2 none)):=by
    have:=dG (r:={q with sh:=a}) (rows:=p.sr.set j2 none) (j:=j2) (List.getElem?_set_self hj);rw[List.set_set] at this;exact this
   refine (((dG (r:=c') f1).append x2).trans ?_).nodup_iff.mpr hA;rw[SC];refine List.Perm.trans ?_ ((QH hq).append (QH hc)).symm;rw[e];refine (List.Perm.cons _ List.perm_middle).trans ((List.Perm.swap _ _ _).trans (List.Perm.cons _ List.perm_middle.symm))
  ·rw[if_neg (show ¬Option.map (λx:Nat×Sh=>x.1) (some (j2,q))=some j from λz=>e9 (Option.some.inj z))];have hn:p.sr[j2]?=some none:=by
    rcases ZL hT hsf with h|⟨h,_⟩
    ·exact h
    ·exact absurd (Option.some.inj h).symm e9
   refine (WW f1 (c:=c) (by rw[e2,List.getElem?_set,if_neg e9];exact hc) e).nodup_iff.mpr ?_;exact (h0.hd λj q z=>by cases z;exact hn).nodup_iff.mpr hA
noncomputable def WJ (A:UD):Sp:=λvs H Q _=>∃(z:Ss) (s:St) (L:Lb) (pl fl sl m:Addr) (p:St) (j:Nat) (ms:List Bool) (c:Sh),vs=[.ref z.p,.ref pl,.int (j:Int),.ref m]/\Cx A H z s L pl fl sl p/\s.sr[j]?=some (some c)/\H m=some (.lst (ms.map V.bl))/\L m=5/\ms.length=s.fr.length/\
 ∀H' L' (s1 p1:St) (i:Nat) ps out out' a7,gD s (some j) ms s1 i ps out'->iG p (some j) ms p1 i ps out->Cx A H' z (gB s1 i j c out') L' pl fl sl (gB p1 i j a7 out)->(Ap p->Ap (gB p1 i j a7 out))->Zv [1,2] L L' H H'->Q .non H'
theorem zM (T:MB K mg A):HC P w K mg base "_law_back" 8 ["_law_sheets","_law_plain","_law_slot","_law_marks"] [] (WJ A):=by
 have D3:=@JW P w K mg base A T;have Eg:=@xJ P w K mg base A T;refine T.E9.have NL (λvs H Q E z=>?_) ?_
 ·obtain⟨z,s,L,pl,fl,sl,m,p,j,ms,c,rfl,_⟩:=z;rfl
 ·intro f cdv A' outer s H vs Q E hr z;obtain⟨z,s,L,pl,fl,sl,m,p,j,ms,c,rfl,hC,hc,hm,hlm,hml,q⟩:=z;have hlen:=hC.len;have h64:=hC.ss.len;have hhh:=hC.ss.hh;obtain⟨w,hw,hwb,hwk⟩:=hC.si.ats hc;obtain⟨ws,hs,hwl,hwj,hF⟩:=hC.lp.slot hw;obtain⟨us,hf,hul,hrows⟩:=hC.lp.q.hf;have hln:=hC.lp.q.ln;obtain⟨_,w1,w2,w3,w4,w5,w6⟩:=id hF;refine⟨_,(aB (mB (i:=4) NL.nd rfl (Or.inl rfl) (yA SA (yA SA (aA 1) rA (λ_ _=>rfl)) (aA 2) (λ_ _=>rfl)))
   (nB (aD (QD (aA 0) T.Ab Eg (hr.mono (by decide)) ZA (dA (aA 2) (dA (aA 3) nA))))
   (nB (mB (i:=5) NL.nd rfl (Or.inl rfl) (pC D3 (hr.mono (by decide)) ZA (dA (aA 1) (dA (aA 3) (dA (aA 2) nA)))))
   (aB (mB (i:=6) NL.nd rfl (Or.inl rfl) (aA 2))
   (nB (GB (PW.pt (QE (qB MD (yA oC (aA 5) rA (λ_ _=>rfl)) lB (gA _)) (OE (qB vE (yA oC (yA oC (aA 5) rA (λ_ _=>rfl)) rA (λ_ _=>rfl)) (aA 2) (gA _))))) (BA (mB (i:=6) NL.nd rfl (Or.inl rfl) lB)) (BA (tD (UC (dA (yA SA (aA 4) rA (λ_ _=>rfl)) (dA (UC nA) (dA (yA oC (aA 5) rA (λ_ _=>rfl)) nA)))) (sD (yA SA (aA 1) rA (λ_ _=>rfl)) (aA 2) uD))))
   (BA (tD (UC (dA (yA SA (aA 4) rA (λ_ _=>rfl)) (dA (yA SA (aA 4) rA (λ_ _=>rfl)) (dA (aA 6) nA)))) (sD (yA SA (aA 1) rA (λ_ _=>rfl)) (yA oC (aA 5) rA (λ_ _=>rfl)) uD)))))))),?_⟩
  rfl';refine⟨_,kA.of hC.lp.q.hp,_,xA (j:=1) rfl,sl,rfl,_,kA.of hs,_,xA hwj,?_⟩;refine wA (λσ G=>σ=[some (.ref z.p),some (.ref pl),some (.int (j:Int)),some (.ref m),some (.ref w.sh),none,none]/\∃s1 i' ps' out',gD s (some j) ms s1 i' ps' out'/\lA A.Aa A.Ad A.Ac G z (gB s1 i' j c out')/\Ap (gB s1 i' j c out')/\Tw (gB s1 i' j c out')/\Ks z H G) ?_ λU9 D9 hU9 hD9 σ1 G1=>?_
  ·obtain⟨dx9,h9⟩:=hC.ss.me;rfl';refine⟨dx9,_,h9,EC ∅,z,s,j,m,ms,c,rfl,hC.ss,hC.ap,hC.tw,hm,hml,λr hr=>(hC.ok r (.inl hr)).1,hc,λH' s1 i' ps' out' t' e' v3' a1 a2 a3 a4 a5 a6 a7 a8 a9=>?_⟩;exact⟨s1,i',ps',out',a1,a2,a3,a4,a9⟩
  rintro⟨rfl,s1,i',ps',out',hFs,S9,A9,T9,k9⟩;subst hU9 hD9;have z1:Zv [] L L H G1:=Zv.ks hC.ss S9 k9.kd hC.l0 hC.lp.q.lv (k9.dm hC.ss S9);have lp1:=hC.lp.zv z1 (hC.lp.q.lv.zv z1);have pm:=hFs.alsB hC.tw hc;have mem9:∀r,some r∈(gB s1 i' j c out').fr\/some r∈(gB s1 i' j c out').sr->some r∈s.fr\/some r∈s.sr:=λr hr=>jD.mp (pm.mem_iff.mp (jD.mpr hr));have cs1:Cs A G1 z (gB s1 i' j c out') L:=⟨S9,hC.l0,λr hr=>hC.lb r (mem9 r hr)⟩
  obtain⟨hm1,_⟩:=z1.lst hm hlm (by decide) (by simp);obtain⟨w1',_⟩:=z1.lst w1 w4 (by decide) (by simp);refine wA (λσ G=>∃La2 p1 i ps out t e v3,σ=[some (.ref z.p),some (.ref pl),some (.int (j:Int)),some (.ref m),some (.ref w.sh),some (.ref t),none]/\iG p (some j) ms p1 i ps out/\Lp G La2 pl fl sl p1/\Mv [1,2] L La2 G1 G/\G t=some (.tup [.int (i:Int),.ref e,v3])/\G e=some (.lst (ps.map V.int))/\NE G La2 v3 out/\La2 e=5/\Sk p G1 G) ?_ λU9 D9 hU9 hD9 σ2 G2=>?_
  ·rfl';refine⟨pl,fl,sl,m,L,p,some j,ms,rfl,lp1,hm1,by rw[hlm];decide,⋯,by rw[hC.si.h];omega,⋯,⋯,hC.okf,λe9 i=>?_,λH' L' p1 i ps out t e v3 a1 a2 a3 a4 a5 a6 a7 a8=>?_⟩
   ·rw[hC.si.slot,hlen.2];exact uQ hC.tw hC.ss.lens.2 λ_ _=>⟨j,rfl,(List.getElem?_eq_some_iff.mp hc).1⟩
   ·exact⟨L',p1,i,ps,out,t,rfl,a1,a2,a3,e,v3,a4,a5,a6,a7,a8⟩
  rintro⟨La2,p1,i,ps,out,t,e,v3,rfl,hFf,hL2,m2,ht2,he2,ho2,hle2,sk2⟩;subst hU9 hD9;obtain⟨ei,ep,hsim,hos⟩:=hC.si.ffr hC.tw hC.lp.tw hFs hFf λ_ _ h=>h;have ei:i'=i:=by first|exact ei|exact ei.symm
  have ep:ps'=ps:=by first|exact ep|exact ep.symm
  rw[ei,ep] at hFs;rw[ei] at S9 A9 T9 mem9 pm;have cs1:Cs A G1 z (gB s1 i j c out') L:=by rw[<-ei];exact cs1
  have cs2:=cs1.mv m2 lp1.q.lv (by simp);obtain⟨f1,f2,f3,f4,f5⟩:=hFf.facts hC.lp.tw;have z2:Zv [1,2] L La2 H G2:=(z1.sub (by simp)).trans (m2.zv lp1.q.lv (by simp));have hw2:G2 w.sh=some (.lst [.ref w.bx,.ref w.hd,oV none]):=(sk2 j w hw).trans w1';have hwl2:La2 w.sh=2:=by rw[m2.lx.at w1'];exact w4
  have wb2:=z2.lst w2 w5 (by decide) (by decide);have wh2:FD G2 w.hd w.ks/\La2 w.hd=4:=by
   obtain⟨ls,x1,x2⟩:=w3;obtain⟨y1,y2⟩:=z2.lst x1 w6 (by decide) (by decide);exact⟨⟨ls,y1,Paired.mapP x2 λ_ _ ⟨a,e,q⟩=>⟨a,e,z2.tup q⟩⟩,y2⟩
  have tn1:∀j',p1.ts[j']?≠some (some i):=λj' h=>f4 j' (hL2.tw.back i j' h);have hln1:=hL2.q.ln;have q5:=hL2.q;have lv5:=hL2.q.lv;rfl';refine wA (λσ G=>∃L6,σ=[some (.ref z.p),some (.ref pl),some (.int (j:Int)),some (.ref m),some (.ref w.sh),some (.ref t),some (oV (twO out j))]/\Lq G L6 pl fl sl p1.h p1.fr (if out.map (·.1)=some j then p1.sr else p1.sr.set j none) p1.tf (if out.map (·.1)=some j then p1.ts else p1.ts.set j (some i)) (λx=>if x=i then w.b else UB p1.fr x)/\Mv [1] La2 L6 G2 G) ?_ λU9 D9 hU9 hD9 σ6 G6=>?_
  ·have q5b:=q5.twins (B':=λx=>if x=i then w.b else UB p1.fr x) λi2 j2 h2=>by
    show (if i2=i then w.b else UB p1.fr i2)=_;rw[if_neg (λe=>tn1 j2 (by rw[<-e];exact h2))]
   rfl';refine⟨_,cB.of ht2,v3,xA (j:=2) rfl,?_⟩;by_cases c9:out.map (·.1)=some j
   ·cases out with
    |none=>cases c9
    |some x=>
     obtain⟨j2,q2⟩:=x;obtain⟨o2,l2,rfl,d1,d2,d3⟩:=id ho2;have ej:j2=j:=Option.some.inj c9;refine mE (by rw[decide_eq_false (λz=>nomatch z)];rfl) ⟨_,cB.of ht2,_,xA (j:=2) rfl,o2,rfl,_,cB.of d1,.int j2,xA (j:=0) rfl,rfl,?_⟩;rw[if_pos (by rw[ej]),if_pos c9,if_pos c9];exact⟨by unfold twO;rw[if_pos c9];rfl,La2,q5b,Mv.of iB⟩
   rw[if_neg c9,if_neg c9];have go:v3=.non\/∃(o2 l2:Addr) (j2:Nat),v3=.ref o2/\G2 o2=some (.tup [.int (j2:Int),.ref l2])/\¬(V.int (j2:Int)=V.int (j:Int)):=by
    cases out with
    |none=>exact .inl ho2
    |some x=>
     obtain⟨j2,q2⟩:=x;obtain⟨o2,l2,e0,d1,d2,d3⟩:=id ho2;refine .inr ⟨o2,l2,j2,e0,d1,λz=>c9 ?_⟩;have:(j2:Int)=j:=V.int.inj z;show some j2=some j;rw[show j2=j by omega]
   rcases go with rfl|⟨o2,l2,j2,rfl,d1,nj⟩
   ·refine wF (by rw[decide_eq_true rfl];rfl) ?_;rw[if_neg Bool.false_ne_true];refine⟨_,kA.of hw2,_,xA (j:=0) rfl,λea hea=>?_⟩;obtain⟨b1,c1⟩:=FB (o:=.lst []) hea;have q51:=q5b.new (k:=4) (us:=[]) hea;have m51:Mv [1] La2 (lab La2 ea 4) G2 (upd G2 ea (.lst [])):=Mv.new hea;have e51:lab La2 ea 4 ea=4:=rD;have x51:lab La2 ea 4 w.bx=3:=by rw[KC (BB wb2.1 hea)];exact wb2.2
    have t51:=b1 _ _ ht2;have y51:=b1 _ _ wb2.1;generalize upd G2 ea _=G51 at *;generalize lab La2 ea 4=L51 at *;refine⟨_,cB.of t51,.int i,xA (j:=0) rfl,λra hra=>?_⟩;obtain⟨b2,c2⟩:=FB (o:=.lst [V.ref w.bx,V.ref ea,V.int (i:Int)]) hra;have q52:=q51.new (k:=2) (us:=[V.ref w.bx,V.ref ea,V.int (i:Int)]) hra;have m52:Mv [1] L51 (lab L51 ra 2) G51 (upd G51 ra (.lst [V.ref w.bx,V.ref ea,V.int (i:Int)])):=Mv.new hra;have hS:RS (upd G51 ra (.lst [V.ref w.bx,V.ref ea,V.int (i:Int)])) (lab L51 ra 2) (λx=>if x=i then w.b else UB p1.fr x) (.ref ra) none (some i):=⟨ra,w.bx,ea,rfl,c2,by show _=some (HO.lst ((if i=i then w.b else UB p1.fr i).map V.int));rw[if_pos rfl];exact b2 _ _ y51,b2 _ _ c1,rD,by rw[KC (BB y51 hra)];exact x51,by rw[KC (BB c1 hra)];exact e51⟩
    generalize upd G51 ra _=G52 at *;generalize lab L51 ra 2=L52 at *;obtain⟨ws2,hs2,hwl2',_⟩:=q52.hs;have hjl2:j < p1.sr.length:=by rw[f3];exact (List.getElem?_eq_some_iff.mp hw).1
    exact⟨_,kA.of q52.hp,_,xA (j:=1) rfl,sl,rfl,ws2,hs2,j,pD ⋯,(by unfold twO;rw[if_neg c9];rfl),L52,q52.slot (j:=j) hs2 hS,(m51.trans m52).trans (Mv.set hs2 (by rw[q52.l1.2.2];simp))⟩
   ·refine mE (by rw[decide_eq_false (λz=>nomatch z)];rfl) ⟨_,cB.of ht2,_,xA (j:=2) rfl,o2,rfl,_,cB.of d1,.int j2,xA (j:=0) rfl,rfl,?_⟩;rw[if_neg nj];refine⟨_,kA.of hw2,_,xA (j:=0) rfl,λea hea=>?_⟩;obtain⟨b1,c1⟩:=FB (o:=.lst []) hea;have q51:=q5b.new (k:=4) (us:=[]) hea;have m51:Mv [1] La2 (lab La2 ea 4) G2 (upd G2 ea (.lst [])):=Mv.new hea;have e51:lab La2 ea 4 ea=4:=rD;have x51:lab La2 ea 4 w.bx=3:=by rw[KC (BB wb2.1 hea)];exact wb2.2
    have t51:=b1 _ _ ht2;have y51:=b1 _ _ wb2.1;generalize upd G2 ea _=G51 at *;generalize lab La2 ea 4=L51 at *;refine⟨_,cB.of t51,.int i,xA (j:=0) rfl,λra hra=>?_⟩;obtain⟨b2,c2⟩:=FB (o:=.lst [V.ref w.bx,V.ref ea,V.int (i:Int)]) hra;have q52:=q51.new (k:=2) (us:=[V.ref w.bx,V.ref ea,V.int (i:Int)]) hra;have m52:Mv [1] L51 (lab L51 ra 2) G51 (upd G51 ra (.lst [V.ref w.bx,V.ref ea,V.int (i:Int)])):=Mv.new hra;have hS:RS (upd G51 ra (.lst [V.ref w.bx,V.ref ea,V.int (i:Int)])) (lab L51 ra 2) (λx=>if x=i then w.b else UB p1.fr x) (.ref ra) none (some i):=⟨ra,w.bx,ea,rfl,c2,by show _=some (HO.lst ((if i=i then w.b else UB p1.fr i).map V.int));rw[if_pos rfl];exact b2 _ _ y51,b2 _ _ c1,rD,by rw[KC (BB y51 hra)];exact x51,by rw[KC (BB c1 hra)];exact e51⟩
    generalize upd G51 ra _=G52 at *;generalize lab L51 ra 2=L52 at *;obtain⟨ws2,hs2,hwl2',_⟩:=q52.hs;have hjl2:j < p1.sr.length:=by rw[f3];exact (List.getElem?_eq_some_iff.mp hw).1
    exact⟨_,kA.of q52.hp,_,xA (j:=1) rfl,sl,rfl,ws2,hs2,j,pD ⋯,(by unfold twO;rw[if_neg c9];rfl),L52,q52.slot (j:=j) hs2 hS,(m51.trans m52).trans (Mv.set hs2 (by rw[q52.l1.2.2];simp))⟩
  rintro⟨L6,rfl,q6,m6⟩;subst hU9 hD9;have hil1:=(List.getElem?_eq_some_iff.mp f1).1;have k6:∀{c us k},G2 c=some (.lst us)->La2 c=k->k≠1->G6 c=some (.lst us)/\L6 c=k:=λhc hk hn=>⟨m6.kw _ _ hc (by rw[hk];simp;exact hn),by rw[m6.lx.at hc];exact hk⟩
  obtain⟨hw6,hwl6⟩:=k6 hw2 hwl2 (by decide);obtain⟨wb6,wbl6⟩:=k6 wb2.1 wb2.2 (by decide);have ht6:G6 t=_:=m6.kw _ _ ht2 (by rw[lv5.zero ht2 λ_ z=>nomatch z];simp);have wh6:FD G6 w.hd w.ks/\L6 w.hd=4:=by
   obtain⟨⟨ls,x1,x2⟩,x3⟩:=wh2;obtain⟨y1,y2⟩:=k6 x1 x3 (by decide);exact⟨⟨ls,y1,Paired.mapP x2 λ_ _ ⟨a,e,q⟩=>⟨a,e,m6.kw _ _ q (by rw[lv5.zero q λ_ z=>nomatch z];simp)⟩⟩,y2⟩
  rfl';refine⟨_,kA.of hw6,_,xA (j:=0) rfl,_,kA.of hw6,_,xA (j:=1) rfl,λa7 ha7=>?_⟩;obtain⟨b1,c1⟩:=FB (o:=.lst [V.ref w.bx,V.ref w.hd,oV (twO out j)]) ha7;have q61:=q6.new (k:=2) (us:=[V.ref w.bx,V.ref w.hd,oV (twO out j)]) ha7;have m61:Mv [1] L6 (lab L6 a7 2) G6 (upd G6 a7 (.lst [V.ref w.bx,V.ref w.hd,oV (twO out j)])):=Mv.new ha7;have hR:RF (upd G6 a7 (.lst [V.ref w.bx,V.ref w.hd,oV (twO out j)])) (lab L6 a7 2) (.ref a7) (some {w with sh:=a7}) (twO out j):=⟨rfl,c1,b1 _ _ wb6,wh6.1.same b1,rD,by rw[KC (BB wb6 ha7)];exact wbl6,by obtain⟨⟨ls,x1,x2⟩,x3⟩:=wh6;rw[KC (BB x1 ha7)];exact x3⟩
  have t61:=b1 _ _ ht6;generalize upd G6 a7 _=G61 at *;generalize lab L6 a7 2=L61 at *;obtain⟨us2,hf2,hul2,_⟩:=q61.hf;refine⟨_,kA.of q61.hp,_,xA (j:=0) rfl,_,cB.of t61,.int i,xA (j:=0) rfl,fl,rfl,us2,(i:Int),rfl,hf2,i,pD ⋯,?_⟩;have m7:Mv [1] La2 L61 G2 (upd G61 fl (.lst (us2.set i (V.ref a7)))):=(m6.trans m61).trans (Mv.set hf2 (by rw[q61.l1.2.1];simp));have q7':Lq (upd G61 fl (.lst (us2.set i (V.ref a7)))) L61 pl fl sl (gB p1 i j {w with sh:=a7} out).h (gB p1 i j {w with sh:=a7} out).fr (gB p1 i j {w with sh:=a7} out).sr (gB p1 i j {w with sh:=a7} out).tf (gB p1 i j {w with sh:=a7} out).ts (UB (gB p1 i j {w with sh:=a7} out).fr):=by
   have q7:=q61.frame (j:=i) hf2 hR;obtain⟨d1,d2,d3,d4,d5,_⟩:=wJ (s1:=p1) (i:=i) (j:=j) (c:={w with sh:=a7}) (out:=out);rw[d1,d2,d3,d4,d5];have etf:p1.tf.set i (twO out j)=if out.map (·.1)=some j then p1.tf else p1.tf.set i (some j):=by
    unfold twO
    split
    ·obtain⟨o9,ho9⟩:∃o,p1.tf[i]?=some o:=⟨_,List.getElem?_eq_getElem ⋯⟩
     cases o9 with
     |some b=>exact absurd ho9 (f4 b)
     |none=>
      obtain⟨x1,x2⟩:=List.getElem?_eq_some_iff.mp ho9;rw[<-x2,List.set_getElem_self]
    ·rfl
   rw[etf] at q7;refine q7.twins λi2 j2 h2=>?_;show UB (p1.fr.set i (some {w with sh:=a7})) i2=if i2=i then w.b else UB p1.fr i2
   unfold UB;rw[List.getElem?_set];by_cases e9:i2=i
   ·rw[if_pos e9,if_pos e9.symm,if_pos hil1]
   ·rw[if_neg e9,if_neg (λe=>e9 e.symm)]
  have cs7:=cs2.mv m7 hL2.q.lv (by simp);have si9:=hsim.back (i:=i) (j:=j) (q:=c) (q':={w with sh:=a7}) hos hwb hwk;exact q _ L61 s1 p1 i ps out out' {w with sh:=a7} hFs hFf ⟨cs7.ss,A9,T9,(pm.map Sh.bx).nodup_iff.mpr hC.bx,cs7.l0,cs7.lb,⟨q7',si9.tw T9⟩,si9,λr hr=>hC.ok r (mem9 r hr)⟩ (λhA=>hFf.apB hC.lp.tw hA hw rfl) (z2.trans ((m7.zv hL2.q.lv (by simp)).sub (by simp)))
noncomputable def aE (s:St):List (List Key):=(JA s).flatMap Sh.ks
structure Me (n m t:Nat) (s:St):Prop where
 fr:s.fr.length=n
 sr:s.sr.length=m
 nd:(aE s).Nodup
 tri:∀k∈aE s,eC k
 old:∀k∈aE s,∃y:Nat,k[2]?=some (.inl (y:Int))/\(y < t\/(100<=y/\y < 100+t))
 few:(aE s).length<=2 * t
 two:∀r∈JA s,r.b.length=2
theorem ZH {p:Sh->Bool}:∀{l:List Sh},((l.filter p).flatMap Sh.ks).length<=(l.flatMap Sh.ks).length
 |[]=>Nat.le_refl _
 |x::l=>by
  have ih:=ZH (p:=p) (l:=l);rw[List.filter_cons,List.flatMap_cons,List.length_append]
  split
  ·rw[List.flatMap_cons,List.length_append];omega
  ·omega
theorem Me.fi {n m t:Nat} {s:St} (h:Me n m t s) (ht:t<=100):Fi s 0 ⟨[],s,[]⟩:=by
 refine⟨rfl,rfl,λe he=>(List.not_mem_nil he).elim,h.nd,h.tri,λb=>?_,Nat.le_refl _,Nat.le_refl _⟩;have h1:=ZH (p:=λr=>decide (r.b=b)) (l:=JA s);have h2:((JA s).flatMap Sh.ks).length<=2 * t:=h.few;show (((JA s).filter λr=>decide (r.b=b)).flatMap Sh.ks).length < 640;omega
theorem Me.pm {n m t:Nat} {s s':St} (h:Me n m t s) (e:(JA s').Perm (JA s)) (h1:s'.fr.length=s.fr.length) (h2:s'.sr.length=s.sr.length):Me n m t s':=by
 have pk:(aE s').Perm (aE s):=e.flatMap_right Sh.ks;exact⟨h1.trans h.fr,h2.trans h.sr,pk.nodup_iff.mpr h.nd,λk hk=>h.tri k (pk.mem_iff.mp hk),λk hk=>h.old k (pk.mem_iff.mp hk),by rw[pk.length_eq];exact h.few,λr hr=>h.two r (e.mem_iff.mp hr)⟩
theorem Me.fresh {n m t:Nat} {s:St} (h:Me n m t s) (ht:t < 100) {w:Str} {x:Int} {y:Nat} (hy:y=t\/y=100+t):[.inr w,.inl x,.inl (y:Int)]∉aE s:=λhk=>by
 obtain⟨y',e,ho⟩:=h.old _ hk;have e:(some (.inl (y:Int)):Option Key)=some (.inl (y':Int)):=e;have:(y:Int)=y':=Sum.inl.inj (Option.some.inj e);omega
theorem Me.add {n m t:Nat} {s s':St} {r:Sh} (h:Me n m t s) (ht:t < 100) (e:(JA s').Perm (r::JA s)) (h1:s'.fr.length=s.fr.length) (h2:s'.sr.length=s.sr.length) (hb:r.b.length=2) {w:Str} {x:Int} (hk:r.ks=[[.inr w,.inl x,.inl (t:Int)]]\/∃(w':Str) (x':Int),r.ks=[[.inr w,.inl x,.inl (t:Int)],[.inr w',.inl x',.inl ((100+t:Nat):Int)]]):Me n m (t+1) s':=by
 have pk:(aE s').Perm (r.ks++aE s):=by
  have:=e.flatMap_right Sh.ks;rw[List.flatMap_cons] at this;exact this
 have hin:∀k∈r.ks,eC k/\∃y:Nat,k[2]?=some (.inl (y:Int))/\(y=t\/y=100+t)/\k∉aE s:=λk hk9=>by
  rcases hk with e1|⟨w',x',e1⟩
  ·rw[e1] at hk9;rw[List.mem_singleton.mp hk9];exact⟨⟨_,_,_,rfl⟩,t,rfl,.inl rfl,h.fresh ht (.inl rfl)⟩
  ·rw[e1] at hk9;rcases List.mem_cons.mp hk9 with rfl|hk9
   ·exact⟨⟨_,_,_,rfl⟩,t,rfl,.inl rfl,h.fresh ht (.inl rfl)⟩
   ·rw[List.mem_singleton.mp hk9];exact⟨⟨_,_,_,rfl⟩,100+t,rfl,.inr rfl,h.fresh ht (.inr rfl)⟩
 have hn:r.ks.Nodup:=by
  rcases hk with e1|⟨w',x',e1⟩
  ·rw[e1];simp
  ·rw[e1];refine List.nodup_cons.mpr ⟨λz=>?_,by simp⟩;have z:=List.mem_singleton.mp z;injection z with _ z;injection z with _ z;injection z with z _;have:(t:Int)=((100+t:Nat):Int):=Sum.inl.inj z;omega
 have hl:r.ks.length<=2:=by
  rcases hk with e1|⟨w',x',e1⟩
  ·rw[e1];show 1<=2;decide
  ·rw[e1];exact Nat.le_refl _
 have hfew:=h.few;refine⟨h1.trans h.fr,h2.trans h.sr,pk.nodup_iff.mpr (List.nodup_append.mpr ⟨hn,h.nd,λa ha b hb e=>?_⟩),λk hk=>?_,λk hk=>?_,by rw[pk.length_eq,List.length_append];omega,λq hq=>?_⟩
 ·obtain⟨_,_,_,_,h9⟩:=hin a ha;exact h9 (by rw[e];exact hb)
 ·rcases List.mem_append.mp (pk.mem_iff.mp hk) with h9|h9
  ·exact (hin k h9).1
  ·exact h.tri k h9
 ·rcases List.mem_append.mp (pk.mem_iff.mp hk) with h9|h9
  ·obtain⟨_,y,y1,y2,_⟩:=hin k h9;exact⟨y,y1,⋯⟩
  ·obtain⟨y,y1,y2⟩:=h.old k h9;exact⟨y,y1,⋯⟩
 ·rcases List.mem_cons.mp (e.mem_iff.mp hq) with rfl|h9
  ·exact hb
  ·exact h.two q h9
theorem M0 {s:St} {f f':Bool} {j j':Nat} {r q:Sh}:(JC s f j f' j' r q).h=s.h/\(JC s f j f' j' r q).go=s.go/\(JC s f j f' j' r q).ga=s.ga/\(JC s f j f' j' r q).cb=s.cb:=by
 unfold JC AB;obtain⟨_,_,u1,u2,u3,u4⟩:=YE (s:=(s.put f' j' (some (rC q (yB r.ks)))).put true j none) (i:=j);cases f<;>cases f'<;>simp only[if_true,Bool.false_eq_true,if_false]<;>first|exact⟨rfl,rfl,rfl,rfl⟩|exact⟨u1,u2,u3,u4⟩
structure XJ (s x:St):Prop where
 ky:(aE x).Perm (aE s)
 bx:∀r∈JA x,∃r0∈JA s,r.b=r0.b
 ad:∃l,((JA x).map Sh.bx++l).Perm ((JA s).map Sh.bx)
 ne:(∀r∈JA s,r.ks≠[])->∀r∈JA x,r.ks≠[]
 h:x.h=s.h
 go:x.go=s.go
 ga:x.ga=s.ga
 cb:x.cb=s.cb
theorem XJ.step {s0:St} {i:Nat} {x:Fs} {p:Bool×Nat} (h:Fi s0 i x) (hp:(spA s0)[i]?=some p) (k:XJ s0 x.s):XJ s0 (sC x p).s:=by
 unfold sC;cases e1:pB x.s p with
 |none=>exact k
 |some r=>
  show XJ s0 (if VD r.ks=true then x else _).s
  split
  ·exact k
  ·cases e2:x.F.find? λe=>decide (e.1=r.b) with
   |none=>exact k
   |some e=>
    have heF:=List.mem_of_find?_eq_some e2;obtain⟨⟨q,hq,hqb,hqn⟩,a,ha,e9⟩:=h.first e heF;show XJ s0 (match pB x.s e.2 with|none=>x|some q=>{x with s:=JC x.s p.1 p.2 e.2.1 e.2.2 r q,M:=x.M++[(p,e.2)]}).s;rw[hq];have hne:¬(p.1=e.2.1/\p.2=e.2.2):=λz=>by
     have ep:e.2=p:=Prod.ext z.1.symm z.2.symm;rw[ep] at e9;obtain⟨y1,y2⟩:=List.getElem?_eq_some_iff.mp e9;obtain⟨y3,y4⟩:=List.getElem?_eq_some_iff.mp hp;exact (List.pairwise_iff_getElem.mp (TN (s:=s0))) a i y1 y3 ha (y2.trans y4.symm)
    have pm:=KQ (ME e1) (ME hq) hne;have pmk:(aE x.s).Perm (aE (JC x.s p.1 p.2 e.2.1 e.2.2 r q)):=by
     have p9:=pm.flatMap_right Sh.ks;rw[List.flatMap_cons,List.flatMap_cons,List.flatMap_cons] at p9;have p9:((q.ks++yB r.ks)++(JA x.s).flatMap Sh.ks).Perm (q.ks++(r.ks++(JA (JC x.s p.1 p.2 e.2.1 e.2.2 r q)).flatMap Sh.ks)):=p9;rw[List.append_assoc] at p9;have p8:=(List.perm_append_left_iff _).mp p9;exact (List.perm_append_left_iff _).mp ((lE.symm.append_right _).trans p8)
    have hqm:q∈JA x.s:=by
     have h9:=ME hq;rw[jD];cases e8:e.2.1 with
     |true=>rw[e8] at h9;exact .inl (List.mem_of_getElem? h9)
     |false=>rw[e8] at h9;exact .inr (List.mem_of_getElem? h9)
    obtain⟨o1,o2,o3,o4⟩:=M0 (s:=x.s) (f:=p.1) (j:=p.2) (f':=e.2.1) (j':=e.2.2) (r:=r) (q:=q);refine⟨pmk.symm.trans k.ky,λr' hr'=>?_,?_,λhn r' hr'=>?_,o1.trans k.h,o2.trans k.go,o3.trans k.ga,o4.trans k.cb⟩
    ·have h9:r'∈rC q (yB r.ks)::JA x.s:=pm.mem_iff.mpr (List.mem_cons_of_mem _ (List.mem_cons_of_mem _ hr'));rcases List.mem_cons.mp h9 with rfl|h9
     ·exact k.bx q hqm
     ·exact k.bx r' h9
    ·obtain⟨l,hl⟩:=k.ad;have p9:=pm.map Sh.bx;rw[List.map_cons,List.map_cons,List.map_cons] at p9;have p8:((JA x.s).map Sh.bx).Perm (r.bx::(JA (JC x.s p.1 p.2 e.2.1 e.2.2 r q)).map Sh.bx):=(List.perm_cons q.bx).mp p9;exact⟨r.bx::l,(List.perm_middle.trans ((p8.symm.append_right l))).trans hl⟩
    ·have h9:r'∈rC q (yB r.ks)::JA x.s:=pm.mem_iff.mpr (List.mem_cons_of_mem _ (List.mem_cons_of_mem _ hr'));rcases List.mem_cons.mp h9 with rfl|h9
     ·exact λz=>k.ne hn q hqm (List.append_eq_nil_iff.mp z).1
     ·exact k.ne hn r' h9
theorem PQ {s:St} (h:Fi s 0 ⟨[],s,[]⟩):∀i,i<=(spA s).length->XJ s (NA s i).s
 |0,_=>⟨List.Perm.refl _,λr hr=>⟨r,hr,rfl⟩,⟨[],by rw[List.append_nil];exact List.Perm.refl _⟩,λh=>h,rfl,rfl,rfl,rfl⟩
 |i+1,hi=>by
  obtain⟨p,hp⟩:∃p,(spA s)[i]?=some p:=⟨_,List.getElem?_eq_getElem ⋯⟩
  rw[IQ hp];exact XJ.step (WN h i ⋯) hp (PQ h i ⋯)
theorem Me.fold {n m t:Nat} {s:St} (h:Me n m t s) (ht:t<=100):Me n m t (DA s).s:=by
 have hf:=WN (h.fi ht) (spA s).length (Nat.le_refl _);have hk:=PQ (h.fi ht) (spA s).length (Nat.le_refl _);refine⟨hf.fr.trans h.fr,hf.sr.trans h.sr,hk.ky.nodup_iff.mpr h.nd,λk hk9=>h.tri k (hk.ky.mem_iff.mp hk9),λk hk9=>h.old k (hk.ky.mem_iff.mp hk9),by show (aE (NA s (spA s).length).s).length<=2 * t;rw[hk.ky.length_eq];exact h.few,λr hr=>?_⟩;obtain⟨r0,h1,h2⟩:=hk.bx r hr;rw[h2];exact h.two r0 h1
noncomputable def YJ (A:UD):Sp:=λvs H Q _=>∃(z:Ss) (s:St) (L:Lb) (pl fl sl:Addr) (p:St) (n m t:Nat),vs=[.ref z.p,.ref pl]/\Cx A H z s L pl fl sl p/\Ap p/\Me n m t s/\t<=100/\∀H' L' p',Cx A H' z (DA s).s L' pl fl sl p'->Ap p'->Zv [1,4] L L' H H'->Q (.bl true) H'
noncomputable def aI (m:(Bool×Nat)×(Bool×Nat)):Dv:=.seq true [jG m.1,jG m.2]
theorem YW {H:Hp} {v:V} {p:Bool×Nat} (h:qD H v p):EB H (jG p) v:=by
 obtain⟨a,e,h⟩:=h;unfold jG EG;simp only[List.map_cons,List.map_nil];unfold EB;refine⟨a,_,e,by rw[if_pos rfl];exact h,by show 2 < 16777216;decide,?_⟩;unfold EA;refine⟨_,_,rfl,by unfold EB;exact⟨rfl,rfl⟩,?_⟩;unfold EA;refine⟨_,_,rfl,by unfold EB;exact⟨rfl,rfl⟩,?_⟩;unfold EA
 rfl
theorem ZJ {H:Hp} {v:V} {m:(Bool×Nat)×(Bool×Nat)} (h:gG H v m):EB H (aI m) v:=by
 obtain⟨a,t1,t2,e,h1,h2,h3⟩:=h;unfold aI EB;refine⟨a,_,e,by rw[if_pos rfl];exact h1,by show 2 < 16777216;decide,?_⟩;unfold EA;refine⟨_,_,rfl,YW h2,?_⟩;unfold EA;refine⟨_,_,rfl,YW h3,?_⟩;unfold EA
 rfl
theorem QQ {H:Hp}:∀{us:List V} {M:List ((Bool×Nat)×(Bool×Nat))},Paired (gG H) us M->EA H (M.map aI) us
 |_,_,.nil=>by unfold EA;rfl
 |_,_,.cons h r=>by
  rw[List.map_cons];unfold EA;exact⟨_,_,rfl,ZJ h,QQ r⟩
theorem ZW:∀(M:List ((Bool×Nat)×(Bool×Nat))),vA (M.map aI)<=2
 |[]=>by rw[List.map_nil];unfold vA;omega
 |m::M=>by
  rw[List.map_cons];unfold vA;have h1:=ZW M;have h2:kB (aI m)=2:=by
   have e1:∀p,kB (jG p)=1:=λp=>by unfold jG kB;rw[NO]
   unfold aI kB vA vA vA;rw[e1,e1]
   rfl
  omega
noncomputable def AM (h go ga cb:Int):Dv:=.seq true [.leaf (.int h),.seq true [.leaf (.int go),.leaf (.int ga),.leaf (.int cb)]]
theorem N0 {h go ga cb:Int}:kB (AM h go ga cb)<=4:=by unfold AM;simp[kB,vA]
theorem aX {H:Hp} {a m:Addr} {h go ga cb:Int} (h1:H a=some (.tup [.int h,.ref m])) (h2:H m=some (.tup [.int go,.int ga,.int cb])):EB H (AM h go ga cb) (.ref a):=by
 unfold AM EB;refine⟨a,_,rfl,by rw[if_pos rfl];exact h1,by show 2 < 16777216;decide,?_⟩;unfold EA;refine⟨_,_,rfl,by unfold EB;exact⟨rfl,rfl⟩,?_⟩;unfold EA;refine⟨_,_,rfl,?_,by unfold EA;rfl⟩;unfold EB;refine⟨m,_,rfl,by rw[if_pos rfl];exact h2,by show 3 < 16777216;decide,?_⟩;unfold EA;refine⟨_,_,rfl,by unfold EB;exact⟨rfl,rfl⟩,?_⟩;unfold EA;refine⟨_,_,rfl,by unfold EB;exact⟨rfl,rfl⟩,?_⟩;unfold EA;refine⟨_,_,rfl,by unfold EB;exact⟨rfl,rfl⟩,?_⟩;unfold EA
 rfl
theorem XN {rows:List (Option Sh)} {k:Nat} {r:Sh} (h:rows[k]?=some (some r)):kC (rows.take (k+1))=kC (rows.take k)+1:=by
 unfold kC;rw[HG h,List.filter_append,List.length_append]
 rfl
theorem BK {rows:List (Option Sh)} {k:Nat} (h:rows[k]?=some none):kC (rows.take (k+1))=kC (rows.take k):=by
 unfold kC;rw[HG h,List.filter_append,List.length_append]
 rfl
theorem YN {a b:List (Option Sh)} (h:Paired jC a b):kC a=kC b:=by
 unfold kC
 induction h with
 |nil=>rfl
 |@cons x y _ _ h t ih=>
  cases x<;>cases y
  ·exact ih
  ·exact h.elim
  ·exact h.elim
  ·rw[List.filter_cons,List.filter_cons];simp only[Option.isSome_some,if_true,List.length_cons];rw[ih]
theorem Cx.nk {A:UD} {H:Hp} {z:Ss} {s:St} {L:Lb} {pl fl sl:Addr} {p:St} (h:Cx A H z s L pl fl sl p):∀q w,pB p q=some w->w.ks≠[]:=λq w e=>by
 have h9:=h.si.lk q;rw[e] at h9;cases e0:pB s q with
 |none=>rw[e0] at h9;exact h9.elim
 |some r=>
  rw[e0] at h9;have h8:=ME e0;have hr:some r∈s.fr\/some r∈s.sr:=by
   cases e9:q.1 with
   |true=>rw[e9] at h8;exact .inl (List.mem_of_getElem? h8)
   |false=>rw[e9] at h8;exact .inr (List.mem_of_getElem? h8)
  intro z;have:=h9.2;rw[z] at this;exact (h.ok r hr).2.1 (List.Perm.nil_eq this).symm
theorem BM (T:MB K mg A):HC P w K mg base "_law_right" 10 ["_law_sheets","_law_plain"] [] (YJ A):=by
 have A8:=@eW P w K mg base A T 5;have Eu:=@uM P w K mg base A T;have Ey:=@xM P w K mg base A T;have Eh:=@KJ P w K mg base A T;have Be:=@uJ P w K mg base A T;have Bg:=@EZ P w K mg base A T;have Aw:=@mW P w K mg base A T;have Bn:=@FQ P w K mg base A T;have B0:=@pM P w K mg base A T;refine T.E0.have OL (λvs H Q E z=>?_) ?_
 ·obtain⟨z,s,L,pl,fl,sl,p,n,m,t,rfl,_⟩:=z;rfl
 ·intro f cdv A' outer s H vs Q E hr z;obtain⟨z,s,L,pl,fl,sl,p,n,m,t,rfl,hC,hAp,hM,ht,q⟩:=z;have hfi0:=hM.fi ht;have h64:=hC.ss.len;have hlen:=hC.len;refine⟨_,(nB (mB (i:=2) OL.nd rfl (Or.inl rfl) (VC (dA (vD (aA 0) T.Ab Be (hr.mono (by decide)) ZA) (dA (vD (aA 0) T.Ab Bg (hr.mono (by decide)) ZA) nA))))
   (nB (mB (i:=3) OL.nd rfl (Or.inl rfl) (pC Ey (hr.mono (by decide)) ZA (dA (aA 1) nA)))
   (nB (GB (PW.pt (LK (lG (XD (pC A8 (hr.mono (by decide)) ZA (dA (vD (aA 0) T.Ab Eh (hr.mono (by decide)) ZA) (dA (aA 3) nA))))) (JK (lG (XD (pC A8 (hr.mono (by decide)) ZA (dA (VC (dA (vD (aA 0) T.Ab Be (hr.mono (by decide)) ZA) (dA (vD (aA 0) T.Ab Bg (hr.mono (by decide)) ZA) nA))) (dA (aA 2) nA)))))))) (BA (zB kG)) XB)
   (nB (GB (PW.pt (LK (lG (XD (pC Eu (hr.mono (by decide)) ZA (dA (vD (aA 0) T.Ab Bn (hr.mono (by decide)) ZA) (dA (yA SA (aA 1) rA (λ_ _=>rfl)) nA))))) (JK (lG (XD (pC Eu (hr.mono (by decide)) ZA (dA (vD (aA 0) T.Ab B0 (hr.mono (by decide)) ZA) (dA (yA SA (aA 1) rA (λ_ _=>rfl)) nA)))))))) (BA (zB kG)) XB)
   (nB (mB (i:=4) OL.nd rfl (Or.inl rfl) (DB yC rfl T.Aj PySem.boot_len (dA (sF rfl (qF (yA SA (aA 1) rA (λ_ _=>rfl))) (x:="_law_one") (fs:=[]) (ix:=[]) rfl rfl (λ_ _ _ _ _ _=>(wC (i:=0) (show (["_law_one"]:List Str).Nodup by decide+kernel) rfl (Or.inl rfl))) (λ_ _ _ _ _ _=>(FI (qB MD (aA 0) lB (gA _)))) (λ_ _ _ _ _ _=>(aA 0))) nA)))
   (nB (mB (i:=4) OL.nd rfl (Or.inl rfl) (VA zD (aA 4) (DB yC rfl T.Aj PySem.boot_len (dA (sF rfl (qF (yA SA (aA 1) rA (λ_ _=>rfl))) (x:="_law_one") (fs:=[]) (ix:=[]) rfl rfl (λ_ _ _ _ _ _=>(wC (i:=0) (show (["_law_one"]:List Str).Nodup by decide+kernel) rfl (Or.inl rfl))) (λ_ _ _ _ _ _=>(FI (PW.pt (QE (qB MD (aA 0) lB (gA _)) (OE (qB LD (yA (FG (K:=K) rfl) (aA 0) rA (λ_ _=>rfl)) lB (gA _))))))) (λ_ _ _ _ _ _=>(aA 0))) nA))))
   (BA (zB (pC A8 (hr.mono (by decide)) ZA (dA (vD (aA 0) T.Ab Aw (hr.mono (by decide)) ZA) (dA (aA 4) nA))))))))))),?_⟩
  refine wA (λσ G=>∃ah mv,σ=[some (.ref z.p),some (.ref pl),some (.ref ah),none,none]/\iA H G/\G ah=some (.tup [.int (s.h:Int),.ref mv])/\G mv=some (.tup [.int s.go,.int s.ga,.int s.cb])) ?_ λU9 D9 hU9 hD9 σ1 G1=>?_
  ·obtain⟨dx9,h9⟩:=hC.ss.me;unfold rQ sQ;rfl';refine⟨dx9,_,h9,EC ∅,z,rfl,s,hC.ss,dx9,_,h9,EC ∅,z,rfl,s,hC.ss,λt ht p hp=>?_⟩;obtain⟨b1,c1⟩:=FB (o:=.tup [V.int s.go,V.int s.ga,V.int s.cb]) ht;obtain⟨b2,c2⟩:=FB (o:=.tup [V.int (s.h:Int),V.ref t]) hp;exact⟨b1.trans b2,t,rfl,b2 _ _ c1⟩
  rintro⟨ah,mv,rfl,s1,ah1,mv1⟩;subst hU9 hD9;have C1:=hC.same s1;refine wA (λσ G=>∃du us Lz,σ=[some (.ref z.p),some (.ref pl),some (.ref ah),some (.ref du),none]/\Lp G Lz pl fl sl (qA p (spA p).length).s/\Ap (qA p (spA p).length).s/\G du=some (.lst us)/\Lz du=5/\Paired (gG G) us (qA p (spA p).length).M/\Mv [1,4] L Lz G1 G) ?_ λU9 D9 hU9 hD9 σ2 G2=>?_
  ·unfold sp_lfd;rfl';exact⟨fl,sl,L,s,p,C1.lp,hAp,hC.si,hfi0,hC.nk,⋯,⋯,λH' L' mo us a1 a2 a3 a4 a5 a6=>⟨us,L',a1,a2,a3,a4,a5,a6⟩⟩
  rintro⟨du,us,Lz,rfl,lp2,ap2,du2,ld2,hP2,m2⟩;subst hU9 hD9;have cs2:=C1.cs.mv m2 C1.lp.q.lv (by simp);have sf:=OW hC.si (spA s).length;have esp:spA p=spA s:=hC.si.spA;rw[esp] at lp2 ap2 hP2;have tp2:∀{c us},G1 c=some (.tup us)->G2 c=some (.tup us):=λhc=>m2.kw _ _ hc (by rw[C1.lp.q.lv.zero hc λ_ z=>nomatch z];simp);refine wA (λσ G=>σ=[some (.ref z.p),some (.ref pl),some (.ref ah),some (.ref du),none]/\Cx A G z (DA s).s Lz pl fl sl (qA p (spA s).length).s/\Zv [] Lz Lz G2 G) ?_ λU9 D9 hU9 hD9 σ3 G3=>?_
  ·obtain⟨dx9,h9⟩:=cs2.ss.me;unfold IW rQ sQ;rfl';refine⟨dx9,_,h9,EC ∅,z,rfl,s,cs2.ss,hC.ap,hC.tw,hfi0,λH3 g ys S3 A3 T3 F3 hg hg3 hP3 k3 d3=>?_⟩;have z3:Zv [] Lz Lz G2 H3:=Zv.ks cs2.ss S3 k3 cs2.l0 lp2.q.lv d3;have lp3:=lp2.zv z3 (lp2.q.lv.zv z3);have du3:=(z3.lst du2 ld2 (by decide) (by simp)).1;have hP23:Paired (gG H3) us (DA s).M:=by
    rw[sf.M] at hP2;exact Paired.mapP hP2 λ_ _ q=>q.to λc us hc=>z3.tup hc
   have hk:=PQ hfi0 (spA s).length (Nat.le_refl _);have C3:Cx A H3 z (DA s).s Lz pl fl sl (qA p (spA s).length).s:=by
    obtain⟨ll,hll⟩:=hk.ad;refine⟨S3,A3,T3,(List.nodup_append.mp (hll.nodup_iff.mpr hC.bx)).1,cs2.l0,λr hr=>?_,lp3,sf.s,λr hr=>?_⟩
    ·have h9:r.bx∈(JA s).map Sh.bx:=hll.mem_iff.mp (List.mem_append_left _ (List.mem_map.mpr ⟨r,jD.mpr hr,rfl⟩));obtain⟨r0,g1,g2⟩:=List.mem_map.mp h9;rw[<-g2];exact cs2.lb r0 (jD.mp g1)
    ·have hr9:r∈JA (DA s).s:=jD.mpr hr;obtain⟨r0,g1,g2⟩:=hk.bx r hr9;refine⟨⟨?_,?_,λk hk9=>F3.tri k (List.mem_flatMap.mpr ⟨r,hr9,hk9⟩)⟩,hk.ne (λr hr=>(hC.ok r (jD.mp hr)).2.1) r hr9,by rw[g2];exact (hC.ok r0 (jD.mp g1)).2.2⟩
     ·obtain⟨l1,l2,e9⟩:=List.append_of_mem hr9;have h7:=hk.ky.length_eq;have h8:=hM.few;have h6:(aE (NA s (spA s).length).s).length=((JA (DA s).s).flatMap Sh.ks).length:=rfl;rw[e9,List.flatMap_append,List.flatMap_cons,List.length_append,List.length_append] at h6;omega
     ·obtain⟨l1,l2,e9⟩:=List.append_of_mem hr9;have h7:=F3.nd;rw[e9,List.flatMap_append,List.flatMap_cons] at h7;exact (List.nodup_append.mp (List.nodup_append.mp h7).2.1).1
   obtain⟨dx8,h8⟩:=S3.me;have hml:((DA s).M.map aI).length < 16777216:=by
    have h7:=F3.ml;have h6:(spA s).length<=1280:=by
     unfold spA;rw[List.length_append,List.length_map,List.length_map,List.length_range,List.length_range];omega
    rw[List.length_map];omega
   refine⟨_,_,.seq false ((DA s).M.map aI),rfl,(by unfold EB;exact⟨g,ys,rfl,by rw[if_neg Bool.false_ne_true];exact hg3,hml,QQ hP3⟩),(by unfold EB;exact⟨du,us,rfl,by rw[if_neg Bool.false_ne_true];exact du3,hml,QQ hP23⟩),(by unfold kB;have:=ZW (DA s).M;omega),λH4 s4=>⟨true,rfl,?_⟩⟩;rw[if_neg (by simp)];refine⟨dx8,_,s4 _ _ h8,EC ∅,z,rfl,_,S3.same s4,dx8,_,s4 _ _ h8,EC ∅,z,rfl,_,S3.same s4,λt5 ht5 p5 hp5=>?_⟩;obtain⟨b5,c5⟩:=FB (o:=.tup [V.int (DA s).s.go,V.int (DA s).s.ga,V.int (DA s).s.cb]) ht5;obtain⟨b6,c6⟩:=FB (o:=.tup [V.int ((DA s).s.h:Int),V.ref t5]) hp5;have s46:=s4.trans (b5.trans b6);have c56:=b6 _ _ c5;have ah6:=s46 _ _ (z3.tup (tp2 ah1));have mv6:=s46 _ _ (z3.tup (tp2 mv1));generalize upd (upd H4 t5 _) p5 _=H6 at *;have e1:(DA s).s.h=s.h:=hk.h;have e2:(DA s).s.go=s.go:=hk.go;have e3:(DA s).s.ga=s.ga:=hk.ga;have e4:(DA s).s.cb=s.cb:=hk.cb;rw[e1] at c6;rw[e2,e3,e4] at c56;refine⟨_,_,AM s.h s.go s.ga s.cb,rfl,aX c6 c56,aX ah6 mv6,N0,λH7 s7=>⟨true,rfl,?_⟩⟩;rw[if_neg (by simp)];exact⟨C3.same (s46.trans s7),z3.trans (Zv.of (s46.trans s7))⟩
  rintro⟨rfl,C3,z3⟩;subst hU9 hD9;obtain⟨okf,oks⟩:=C3.oks;have A3:Ap (qA p (spA s).length).s:=ap2;refine wA (λσ G=>σ=[some (.ref z.p),some (.ref pl),some (.ref ah),some (.ref du),none]/\iA G3 G) ?_ λU9 D9 hU9 hD9 σ4 G4=>?_
  ·obtain⟨dx9,h9⟩:=C3.ss.me;have hln6:=C3.ss.lens;have h64:=C3.ss.len;have lf:(tF (DA s).s).length<=640:=by unfold tF;rw[List.length_zipWith];omega
   have ls:(tS (DA s).s).length<=640:=by unfold tS;rw[List.length_zipWith];omega
   rfl';refine⟨dx9,_,h9,EC ∅,z,(DA s).s,rfl,C3.ss,okf,λH1 l1 b1 hl1 hk1=>?_⟩;have C61:=C3.same b1;obtain⟨us,hf,hul,hrow⟩:=C61.tf;refine⟨_,kA.of C61.lp.q.hp,_,xA (j:=0) rfl,l1,fl,us,tF (DA s).s,rfl,hf,hul,hrow,λr hr=>UH okf hr,lf,hk1,λH2 b2=>⟨true,rfl,UA ?_⟩⟩;have C62:=C61.same b2;refine⟨dx9,_,b2 _ _ (b1 _ _ h9),EC ∅,z,(DA s).s,rfl,C62.ss,C62.tw,okf,oks,λH3 l3 b3 hl3 hk3=>?_⟩;have C63:=C62.same b3;obtain⟨ws,hs,hwl,hrow2⟩:=C63.ts;exact⟨_,kA.of C63.lp.q.hp,_,xA (j:=1) rfl,l3,sl,ws,tS (DA s).s,rfl,hs,hwl,hrow2,λr hr=>VH okf oks hr,ls,hk3,λH4 b4=>⟨true,rfl,UA (((b1.trans b2).trans b3).trans b4)⟩⟩
  rintro⟨rfl,s4⟩;subst hU9 hD9;have C4:=C3.same s4;have z4:Zv [1,4] L Lz H G4:=((Zv.of s1).trans (m2.zv C1.lp.q.lv (by simp))).trans ((z3.trans (Zv.of s4)).sub (by simp));have hz:=PySem.sizeLine_eq;have h64b:=C4.ss.len;have hlenb:=C4.len;refine wA (λσ G=>σ=[some (.ref z.p),some (.ref pl),some (.ref ah),some (.ref du),some (.int (kC (qA p (spA s).length).s.fr:Nat))]/\iA G4 G) ?_ λU9 D9 hU9 hD9 σ5 G5=>?_
  ·obtain⟨us4,hf4,hul4,hr4⟩:=C4.lp.q.hf;have hln4:=C4.lp.q.ln;generalize (qA p (spA s).length).s=y at *;rfl';refine⟨_,kA.of C4.lp.q.hp,_,xA (j:=0) rfl,fl,rfl,⟨_,kA.of hf4⟩,λD hD=>GI (xs:=us4) (λk ys σ H'=>∃v,σ=[v]/\iA G4 H'/\H' D=some (.lst ys)/\ys.length=kC (y.fr.take k)) ⟨_,rfl,HB iB hD,OA,rfl⟩ (λk ys σ H' _ ⟨_,_,e,_⟩=>kA.of (e _ _ hf4)) (λk v ys σ H' hk=>?_) (λys σ H'=>?_)⟩
   ·rintro⟨v',rfl,s5,hD5,hl5⟩;have hkl:=(List.getElem?_eq_some_iff.mp hk).1;obtain⟨r,hr⟩:∃r,y.fr[k]?=some r:=⟨_,List.getElem?_eq_getElem ⋯⟩
    obtain⟨o,ho⟩:∃o,y.tf[k]?=some o:=⟨_,List.getElem?_eq_getElem ⋯⟩
    obtain⟨v2,hv2,hF2⟩:=hr4 k r o hr ho;rw[hk] at hv2;obtain rfl:v=v2:=Option.some.inj hv2;have hcl:=FH (rows:=y.fr.take k);rw[List.length_take] at hcl;rfl';cases r with
    |none=>
     obtain rfl:v=.non:=hF2;exact wF (by rw[decide_eq_true rfl];rfl) ⟨s5,hD5,by rw[hl5,BK hr]⟩
    |some r=>
     obtain⟨rfl,_⟩:=hF2;exact mE (by rw[decide_eq_false (λz=>nomatch z)];rfl) ⟨hD5,⋯,ZC s5 hD,by rw[List.length_append,hl5,XN hr];rfl⟩
   ·rintro⟨v',rfl,s5,hD5,hl5⟩;rw[hul4,List.take_length] at hl5;exact⟨_,.inl ⟨_,kA.of hD5,rfl⟩,by rw[hl5],s5⟩
  rintro⟨rfl,s5⟩;subst hU9 hD9;have C5:=C4.same s5;have esim:=sf.s;have esim:PB (DA s).s (qA p (spA s).length).s:=esim;have e1:=YN esim.fr;have e2:=YN esim.sr;have qq:∀G,iA G5 G->Q (.bl true) G:=λG sG=>q G Lz _ (C5.same sG) A3 (z4.trans (Zv.of (s5.trans sG)));generalize (qA p (spA s).length).s=y at *;refine wA (λσ G=>σ=[some (.ref z.p),some (.ref pl),some (.ref ah),some (.ref du),some (.int ((kC y.fr:Nat)+(kC y.sr:Nat):Int))]/\iA G5 G) ?_ λU9 D9 hU9 hD9 σ6 G6=>?_
  ·obtain⟨us4,hf4,hul4,hr4⟩:=C5.lp.q.hs;have hln4:=C5.lp.q.ln;rfl';refine⟨_,kA.of C5.lp.q.hp,_,xA (j:=1) rfl,sl,rfl,⟨_,kA.of hf4⟩,λD hD=>GI (xs:=us4) (λk ys σ H'=>∃v,σ=[v]/\iA G5 H'/\H' D=some (.lst ys)/\ys.length=kC (y.sr.take k)) ⟨_,rfl,HB iB hD,OA,rfl⟩ (λk ys σ H' _ ⟨_,_,e,_⟩=>kA.of (e _ _ hf4)) (λk v ys σ H' hk=>?_) (λys σ H'=>?_)⟩
   ·rintro⟨v',rfl,s6,hD5,hl5⟩;have hkl:=(List.getElem?_eq_some_iff.mp hk).1;obtain⟨r,hr⟩:∃r,y.sr[k]?=some r:=⟨_,List.getElem?_eq_getElem ⋯⟩
    obtain⟨o,ho⟩:∃o,y.ts[k]?=some o:=⟨_,List.getElem?_eq_getElem ⋯⟩
    obtain⟨v2,hv2,hF2⟩:=hr4 k r o hr ho;rw[hk] at hv2;obtain rfl:v=v2:=Option.some.inj hv2;have hcl:=FH (rows:=y.sr.take k);rw[List.length_take] at hcl;rfl';cases r with
    |none=>
     cases o with
     |none=>
      obtain rfl:v=.non:=hF2;exact wF (by rw[decide_eq_true rfl];rfl) ⟨s6,hD5,by rw[hl5,BK hr]⟩
     |some i=>
      obtain⟨a9,ba,ha,rfl,x1,_⟩:=hF2;refine mE (by rw[decide_eq_false (λz=>nomatch z)];rfl) ⟨_,rfl,_,kA.of (s6 _ _ x1),_,xA (j:=2) rfl,?_⟩;rw[if_neg (by simp)];exact⟨s6,hD5,by rw[hl5,BK hr]⟩
    |some r=>
     obtain⟨rfl,x1,_⟩:=hF2;refine mE (by rw[decide_eq_false (λz=>nomatch z)];rfl) ⟨_,rfl,_,kA.of (s6 _ _ x1),oV none,xA (j:=2) rfl,?_⟩;rw[if_pos (by simp[oV])];exact⟨hD5,⋯,ZC s6 hD,by rw[List.length_append,hl5,XN hr];rfl⟩
   ·rintro⟨v',rfl,s6,hD5,hl5⟩;rw[hul4,List.take_length] at hl5;exact⟨_,.inl ⟨_,kA.of hD5,rfl⟩,by rw[hl5],s6⟩
  rintro⟨rfl,s6⟩;subst hU9 hD9;have C6:=C5.same s6;obtain⟨dx9,h9⟩:=C6.ss.me;unfold qQ;rfl';refine⟨dx9,_,h9,EC ∅,z,rfl,(DA s).s,C6.ss,λH7 s7=>?_⟩;refine⟨_,_,.leaf (.int ((kC y.fr:Nat)+(kC y.sr:Nat):Int)),rfl,?_,by unfold EB;exact⟨rfl,rfl⟩,by unfold kB;omega,λH8 s8=>qq H8 ((s6.trans s7).trans s8)⟩;unfold EB;refine⟨?_,rfl⟩;unfold wB;rw[e1,e2]
  rfl
theorem CM {s:St}:wB s=(JA s).length:=by
 have e:∀{rows:List (Option Sh)},kC rows=(als rows).length:=λ{rows}=>by
  induction rows with
  |nil=>rfl
  |cons x l ih=>
   cases x with
   |none=>exact ih
   |some y=>
    show (some y::l.filter Option.isSome).length=(y::als l).length;rw[List.length_cons,List.length_cons];exact congrArg (·+1) ih
 unfold wB JA;rw[GD,List.length_append,e,e]
noncomputable def aK (K:W.Frag) (A:UD) (a:Addr) (ns:List Int):Sp:=λvs H Q _=>∃(z:Ss) (s:St) (L:Lb) (pl fl sl:Addr) (p:St) (n m t:Nat),vs=[.ref z.p,.ref pl,.ref a,.int (t:Int)]/\Cx A H z s L pl fl sl p/\Ap p/\Me n m t s/\t < 100/\wB s < room s/\oF K H L a (ns.map V.int)/\
 ∀H' L' s' p',Cx A H' z s' L' pl fl sl p'->Ap p'->Me n m (t+1) s'->wB s'=wB s+1->Zv [1,2,4] L L' H H'->Q .non H'
theorem Kg.kd {C P S:Addr} {z:Ss} {s:St} {H H':Hp} {r:Sh} (k:Kg z r.hd H H') (h:lA C P S H z s) (hr:r∈JA s):Kd z H H':=λc o hc h1 h2 h3=>k c o hc h1 h2 λe=>by
 obtain⟨kvs,h4⟩:=h.hd r.hd (List.mem_filterMap.mpr ⟨some r,List.mem_append.mpr (jD.mp hr),rfl⟩);rw[e,h4] at hc;exact h3 kvs (Option.some.inj hc).symm
noncomputable def CK (w:Str) (x:Int) (t:Nat):List Key:=[.inr w,.inl x,.inl ((100+t:Nat):Int)]
noncomputable def DM:List Str:=[Str.ofString "task",Str.ofString "bank",Str.ofString "",Str.ofString "tank",Str.ofString "banks"]
theorem bI (x:Int):∃w:Str,SE (DM.map V.str) (x % 5)=some (.str w):=by
 obtain⟨y,hy⟩:∃y:Nat,x % 5=(y:Int):=⟨(x % 5).toNat,⋯⟩
 have hl:DM.length=5:=rfl;rw[hy];exact⟨DM[y]'⋯,xA (by rw[List.getElem?_map,List.getElem?_eq_getElem ⋯];rfl)⟩
structure O0 (A:UD) (z:Ss) (s:St) (t:Nat) (bs:List Int) (mk:Addr) (ms:List Bool) (wd:Addr) (G2:Hp) (L:Lb) (pl fl sl:Addr) (L8:Lb) (s1 p1:St) (i:Nat) (ps:List Int) (out:Option (Nat×Sh)) (r w:Sh) (wt:Str) (wx:Int) (G:Hp):Prop where
 ff:gD s none ms s1 i ps out
 rb:r.b=bs
 rk:r.ks=[[.inr wt,.inl wx,.inl (t:Int)]]
 wk:w.ks=[[.inr wt,.inl wx,.inl (t:Int)]]
 cx:Cx A G z {s1 with fr:=s1.fr.set i (some r)} L8 pl fl sl {p1 with fr:=p1.fr.set i (some w)}
 ap:Ap {p1 with fr:=p1.fr.set i (some w)}
 i1:i < s1.fr.length
 i2:i < p1.fr.length
 zv:Zv [1,2,4] L L8 G2 G
 km:G mk=some (.lst (ms.map V.bl))
 lm:L8 mk=5
 kw:G wd=some (.lst (DM.map V.str))
 lw:L8 wd=5
theorem EM (T:MB K mg A) (a:Addr) (ns:List Int):HC P w K mg base "_law_made" 9 ["_law_sheets","_law_plain","_law_script","_law_k"] [] (aK K A a ns):=by
 have At:=@bW P w K mg base A T a ns;have E5:=@yM P w K mg base A T;have Fp:=@zM P w K mg base A T;have Bc:=@BW P w K mg base A T;refine T.Fa.have aG (λvs H Q E z=>?_) ?_
 ·obtain⟨z,s,L,pl,fl,sl,p,n,m,t,rfl,_⟩:=z;rfl
 ·intro f cdv A' outer s H vs Q E hr z;obtain⟨z,s,L,pl,fl,sl,p,n,m,t,rfl,hC,hAp,hM,ht,hroom,hScr,q⟩:=z;obtain⟨us,hf,hul,_⟩:=hC.lp.q.hf;have hlen:=hC.len;have h64:=hC.ss.len;have hz:=PySem.sizeLine_eq;have hnf:=hM.fr;have hmf:=hM.sr;refine⟨_,(nB (mB (i:=4) aG.nd rfl (Or.inl rfl) (pC At (hr.mono (by decide)) ZA (dA (aA 2) (dA (VA zD rA (VA FC (aA 3) (DB (fU rfl) rfl T.Ft PyProof.Rows.boot_max (dA rA (dA (VA ZT (DB yC rfl T.Aj PySem.boot_len (dA (aA 2) nA)) rA) nA))))) nA))))
   (nB (mB (i:=5) aG.nd rfl (Or.inr rfl) (VA FC (VA zD (VA aU (aA 4) rA) (VA aU (aA 3) rA)) rA))
   (nB (qL (i:=6) aG.nd rfl rfl rfl (RE rfl T.Ao (dA (DB yC rfl T.Aj PySem.boot_len (dA (yA SA (aA 1) rA (λ_ _=>rfl)) nA)) nA)) (x:="_law_j") (fs:=["_law_number"]) (ix:=[5]) rfl rfl (λ_ _ _ _ _ _=>(wC (i:=0) (show (["_law_j","_law_number"]:List Str).Nodup by decide+kernel) rfl (Or.inl rfl))) (λ_ _ _ _ _ _=>nG) (λ_ _ _ _ _ _=>(uI vE (VA FC (VA tI (aA 1) (VA FC (aA 0) rA)) rA) rA (gA _))))
   (nB (mB (i:=7) aG.nd rfl (Or.inl rfl) (UC (dA (VA zD (VA FC (pC At (hr.mono (by decide)) ZA (dA (aA 2) (dA rA nA))) (VA OM rA rA)) (VA FC (VA ZE (aA 5) rA) rA)) (dA rA nA))))
   (nB (GB (qB vE (VA FC (VA ZE (aA 5) rA) rA) rA (gA _)) (BA (mB (i:=7) aG.nd rfl (Or.inl rfl) (UC (dA (VA zD (VA FC (pC At (hr.mono (by decide)) ZA (dA (aA 2) (dA rA nA))) (VA OM rA rA)) rA) (dA (VA FC (VA zD (aA 4) (aA 3)) rA) nA))))) XB)
   (nB (GB (qB vE (VA FC (VA ZE (aA 5) rA) rA) rA (gA _)) (BA (mB (i:=7) aG.nd rfl (Or.inl rfl) (UC (dA (VA FC (aA 4) (VA OM rA rA)) (dA (VA FC (VA ZE (aA 4) rA) (VA OM rA rA)) nA))))) XB)
   (@nB _ _ _ _ _ (@mB _ _ 8 _ _ _ _ aG.nd rfl (Or.inl rfl) (@UC _ _ _ _ (@dA _ _ _ _ _ JD (@dA _ _ _ _ _ JD (@dA _ _ _ _ _ JD (@dA _ _ _ _ _ JD (@dA _ _ _ _ _ JD nA rfl) rfl) rfl) rfl) rfl)) rfl (Or.inl rfl))
   (nB (mB (i:=9) aG.nd rfl (Or.inl rfl) (pC E5 (hr.mono (by decide)) ZA (@dA _ _ _ _ _ (aA 0) (@dA _ _ _ _ _ (aA 1) (@dA _ _ _ _ _ (aA 7) (@dA _ _ _ _ _ (VC (dA (yA SA (aA 8) (VA FC (VA ZE (aA 5) rA) rA) (λ_ _=>rfl)) (dA (VA FC (aA 5) rA) (dA (aA 3) nA)))) (@dA _ _ _ _ _ (aA 6) nA rfl) rfl) rfl) rfl) rfl)))
   (nB (GB (qB vE (VA FC (VA ZE (aA 5) rA) rA) rA (gA _)) (aB (mB (i:=10) aG.nd rfl (Or.inl rfl) (VC (dA (yA SA (aA 8) (VA FC (VA ZE (aA 5) rA) rA) (λ_ _=>rfl)) (dA (VA FC (aA 5) rA) (dA (VA zD rA (aA 3)) nA)))))
   (aB (aD (QD (aA 0) T.Ab Bc (hr.mono (by decide)) ZA (dA (VC (dA JD (dA (aA 9) nA))) (dA (aA 10) nA))))
   (BA (aD (BF PySem.F.plainAttrs_list PySem.F.slot_list_append PySem.F.type_list_append CF (yA SA (yA SA (yA SA (aA 1) rA (λ_ _=>rfl)) (aA 9) (λ_ _=>rfl)) rA (λ_ _=>rfl)) (dA (aA 10) nA)))))) XB)
   (nB (qL (i:=11) aG.nd rfl rfl rfl (RE rfl T.Ao (dA (DB yC rfl T.Aj PySem.boot_len (dA (yA SA (aA 1) rA (λ_ _=>rfl)) nA)) nA)) (x:="_law_j") (fs:=["_law_plain"]) (ix:=[1]) rfl rfl (λ_ _ _ _ _ _=>(wC (i:=0) (show (["_law_j","_law_plain"]:List Str).Nodup by decide+kernel) rfl (Or.inl rfl))) (λ_ _ _ _ _ _=>(FI (PW.pt (QE (qB MD (yA (FG (K:=K) rfl) (yA (FG (K:=K) rfl) (aA 1) rA (λ_ _=>rfl)) (aA 0) (λ_ _=>rfl)) lB (gA _)) (OE (qB LD (yA (FG (K:=K) rfl) (yA (FG (K:=K) rfl) (yA (FG (K:=K) rfl) (aA 1) rA (λ_ _=>rfl)) (aA 0) (λ_ _=>rfl)) rA (λ_ _=>rfl)) lB (gA _))))))) (λ_ _ _ _ _ _=>(aA 0)))
   (BA (GB (PW.pt (QE (qB YG (DB yC rfl T.Aj PySem.boot_len (dA (aA 11) nA)) rA (gA _)) (OE (qB YG (VA FC (VA ZE (aA 5) rA) rA) rA (gA _))))) (BA (aD (pC Fp (hr.mono (by decide)) ZA (dA (aA 0) (dA (aA 1) (dA (yA SA (aA 11) (VA FC (VA ZE (aA 5) rA) (DB yC rfl T.Aj PySem.boot_len (dA (aA 11) nA))) (λ_ _=>rfl)) (dA (aA 6) nA))))))) XB)))))))))))),?_⟩
  rfl';refine wA (λσ G=>∃c:Int,σ=[some (.ref z.p),some (.ref pl),some (.ref a),some (.int (t:Int)),some (.int c),none,none,none,none,none,none,none]/\G=H) ?_ λU9 D9 hU9 hD9 σ1 G1=>?_
  ·rfl';have hX:(0:Int) < if (ns.length:Int) - 3 > 1 then (ns.length:Int) - 3 else 1:=by split<;>omega
   have hY:=Int.emod_nonneg (t:Int) (Int.ne_of_gt hX);exact⟨ns.length,.inl ⟨_,hScr.sq,by simp⟩,hX,_,rfl,hScr.sq,Int.add_nonneg (by decide) hY,_,rfl,rfl⟩
  rintro⟨c,rfl,rfl⟩;subst hU9 hD9;refine wA (λσ G=>∃nb:Nat,σ=[some (.ref z.p),some (.ref pl),some (.ref a),some (.int (t:Int)),some (.int c),some (.int (nb:Int)),none,none,none,none,none,none]/\G=G1) ?_ λU9 D9 hU9 hD9 σ2 G2=>?_
  ·rfl';have e0:=Int.emod_nonneg (c * 48271+(t:Int) * 16807) (show (2147483647:Int)≠0 by decide);exact⟨((c * 48271+(t:Int) * 16807) % 2147483647).toNat,⋯⟩
  rintro⟨nb,rfl,rfl⟩;subst hU9 hD9;refine wA (λσ G'=>∃(mk:Addr) (ms:List Bool),σ=[some (.ref z.p),some (.ref pl),some (.ref a),some (.int (t:Int)),some (.int c),some (.int (nb:Int)),some (.ref mk),none,none,none,none,none]/\iA G2 G'/\G2 mk=none/\G' mk=some (.lst (ms.map V.bl))/\ms.length=n) ?_ λU9 D9 hU9 hD9 σ3 G3=>?_
  ·rfl';refine⟨_,kA.of hC.lp.q.hp,_,xA (j:=0) rfl,_,.inl ⟨_,kA.of hf,rfl⟩,⋯,⋯,λD hD=>?_⟩;refine DG (λi9 ys σ H'=>∃(v:Option V) (ms:List Bool),σ=[v,some (.int (nb:Int))]/\iA G2 H'/\H' D=some (.lst ys)/\ys=ms.map V.bl/\ms.length=i9) ⟨_,[],rfl,HB iB hD,OA,rfl,rfl⟩ (λi9 ys σ H' hi9=>?_) (λys σ H5=>?_)
   ·rintro⟨v,ms,rfl,s1,hD1,rfl,hml⟩;rfl';exact⟨⋯,hD1,by rw[List.length_map];omega,ZC s1 hD,ms++[_],by rw[List.map_append];rfl,by rw[List.length_append,hml];rfl⟩
   ·rintro⟨v,ms,rfl,s1,hD1,rfl,hml⟩;exact⟨s1,hD,ms,hD1,⋯⟩
  rintro⟨mk,ms,rfl,s3,hmk,mk3,hml⟩;subst hU9 hD9;have C3:=hC.lab (k:=5) s3 hmk mk3;have z3:Zv [1,2,4] L (lab L mk 5) G2 G3:=(Mv.lab s3 hmk).zv hC.lp.q.lv (by simp);have l3m:lab L mk 5 mk=5:=rD;have hScr3:=hScr.zv z3 (by decide);generalize lab L mk 5=L3 at *;clear s3 hmk;refine wA (λσ G'=>∃(sh0:Addr) (bs:List Int),σ=[some (.ref z.p),some (.ref pl),some (.ref a),some (.int (t:Int)),some (.int c),some (.int (nb:Int)),some (.ref mk),some (.ref sh0),none,none,none,none]/\bs.length=2/\iA G3 G'/\G3 sh0=none/\G' sh0=some (.lst (bs.map V.int))) ?_ λU9 D9 hU9 hD9 σ4 G4=>?_
  ·rfl';exact⟨2,rfl,hScr3.sq,⋯,_,rfl,λp hp=>⟨[_,_],rfl,HB iB hp,hp,rfl⟩⟩
  rintro⟨sh4,bs4,rfl,hb4,s4,f4,g4⟩;subst hU9 hD9;have hScr4:oF K G4 L3 a (ns.map V.int):=hScr3.zv (Zv.of (S:=[]) s4) (by simp);refine wA (λσ G'=>∃(sh0:Addr) (bs:List Int),σ=[some (.ref z.p),some (.ref pl),some (.ref a),some (.int (t:Int)),some (.int c),some (.int (nb:Int)),some (.ref mk),some (.ref sh0),none,none,none,none]/\bs.length=2/\iA G3 G'/\G3 sh0=none/\G' sh0=some (.lst (bs.map V.int))) ?_ λU9 D9 hU9 hD9 σ5 G5=>?_
  ·rfl';exact OD (λ_=>⟨2,rfl,hScr4.sq,⋯,_,rfl,λp hp=>⟨[_,_],rfl,s4.trans (HB iB hp),NB s4 hp,rfl⟩⟩) (λ_=>⟨bs4,hb4,s4,f4,g4⟩)
  rintro⟨sh5,bs5,rfl,hb5,s5,f5,g5⟩;subst hU9 hD9;have hScr5:oF K G5 L3 a (ns.map V.int):=hScr3.zv (Zv.of (S:=[]) s5) (by simp);refine wA (λσ G'=>∃(sh0:Addr) (bs:List Int),σ=[some (.ref z.p),some (.ref pl),some (.ref a),some (.int (t:Int)),some (.int c),some (.int (nb:Int)),some (.ref mk),some (.ref sh0),none,none,none,none]/\bs.length=2/\iA G3 G'/\G3 sh0=none/\G' sh0=some (.lst (bs.map V.int))) ?_ λU9 D9 hU9 hD9 σ6 G6=>?_
  ·rfl';exact OD (λ_ p hp=>⟨[_,_],rfl,s5.trans (HB iB hp),NB s5 hp,rfl⟩) (λ_=>⟨bs5,hb5,s5,f5,g5⟩)
  rintro⟨sh0,bs,rfl,hb,s6,f6,g6⟩;subst hU9 hD9;clear hScr4 hScr5 s4 s5 f4 f5 g4 g5 hb4 hb5;have C6:=C3.lab (k:=3) s6 f6 g6;have z6:Zv [1,2,4] L (lab L3 sh0 3) G2 G6:=z3.trans ((Mv.lab s6 f6).zv C3.lp.q.lv (by simp));have l6s:lab L3 sh0 3 sh0=3:=rD;have l6m:lab L3 sh0 3 mk=5:=by rw[KC (BB mk3 f6)];exact l3m
  have mk6:=s6 _ _ mk3;generalize lab L3 sh0 3=L6 at *;clear hScr3 C3 z3 l3m s6 f6 mk3;refine wA (λσ G'=>∃wd,σ=[some (.ref z.p),some (.ref pl),some (.ref a),some (.int (t:Int)),some (.int c),some (.int (nb:Int)),some (.ref mk),some (.ref sh0),some (.ref wd),none,none,none]/\iA G6 G'/\G6 wd=none/\G' wd=some (.lst (DM.map V.str))) ?_ λU9 D9 hU9 hD9 σ7 G7=>?_
  ·rfl';exact λwd hwd=>⟨HB iB hwd,hwd,rfl⟩
  rintro⟨wd,rfl,s7,f7,g7⟩;subst hU9 hD9;have C7:=C6.lab (k:=5) s7 f7 g7;have z7:Zv [1,2,4] L (lab L6 wd 5) G2 G7:=z6.trans ((Mv.lab s7 f7).zv C6.lp.q.lv (by simp));have l7w:lab L6 wd 5 wd=5:=rD;have l7s:lab L6 wd 5 sh0=3:=by rw[KC (BB g6 f7)];exact l6s
  have l7m:lab L6 wd 5 mk=5:=by rw[KC (BB mk6 f7)];exact l6m
  have mk7:=s7 _ _ mk6;have sh7:=s7 _ _ g6;generalize lab L6 wd 5=L7 at *;clear C6 z6 l6s l6m mk6 g6 s7 f7;refine wA (λσ G'=>∃(L8:Lb) (s1 p1:St) (i:Nat) (ps:List Int) (out:Option (Nat×Sh)) (r w:Sh) (wt:Str) (wx:Int),σ=[some (.ref z.p),some (.ref pl),some (.ref a),some (.int (t:Int)),some (.int c),some (.int (nb:Int)),some (.ref mk),some (.ref sh0),some (.ref wd),some (.int (i:Int)),none,none]/\O0 A z s t bs mk ms wd G2 L pl fl sl L8 s1 p1 i ps out r w wt wx G') ?_ λU9 D9 hU9 hD9 σ8 G8=>?_
  ·rfl';obtain⟨w1,hw1⟩:=bI ((nb:Int) / 65536);refine⟨_,kA.of g7,_,hw1,λh hh=>?_⟩;obtain⟨b1,c1⟩:=FB (o:=.tup [V.str w1,V.int ((nb:Int) % 7),V.int (t:Int)]) hh;refine⟨z,s,L7,pl,fl,sl,sh0,h,mk,p,bs,[.inr w1,.inl ((nb:Int) % 7),.inl (t:Int)],ms,rfl,C7.same b1,hAp,hroom,b1 _ _ sh7,l7s,⋯,c1,⟨_,_,_,rfl⟩,b1 _ _ mk7,l7m,⋯,λH' L' s1 p1 i ps out r w a1 a2 a3 a4 a5 a6 a7 a8 a9=>?_⟩;obtain⟨y1,y2⟩:=a9.lst (b1 _ _ mk7) l7m (by decide) (by decide);obtain⟨y3,y4⟩:=a9.lst (b1 _ _ g7) l7w (by decide) (by decide);exact⟨L',s1,p1,i,rfl,ps,out,r,w,w1,(nb:Int) % 7,a1,a2,a3,a4,a5,a6,a7,a8,z7.trans ((Zv.of b1).trans a9),y1,y2,y3,y4⟩
  rintro⟨L8,s1,p1,i,ps,out,r,w8,wt,wx,rfl,D8⟩;subst hU9 hD9;clear C7 z7 l7w l7s l7m mk7 sh7 g7;refine wA (λσ G'=>∃v11 L9 s9 p9,σ=[some (.ref z.p),some (.ref pl),some (.ref a),some (.int (t:Int)),some (.int c),some (.int (nb:Int)),some (.ref mk),some (.ref sh0),some (.ref wd),some (.int (i:Int)),v11,none]/\Cx A G' z s9 L9 pl fl sl p9/\Ap p9/\Me n m (t+1) s9/\wB s9=wB s+1/\Zv [1,2,4] L L9 G2 G'/\G' mk=some (.lst (ms.map V.bl))/\L9 mk=5) ?_ λU9 D9 hU9 hD9 σ9 G9=>?_
  ·have lv9:∀r',wB ({s1 with fr:=s1.fr.set i (some r')}:St)=wB s+1:=λr'=>by rw[CM,(D8.ff.alsF (r:=r') hC.tw).length_eq,List.length_cons,<-CM]
   obtain⟨fc1,fc2,fc3,_⟩:=D8.ff.facts hC.tw;have hr7:(s1.fr.set i (some r))[i]?=some (some r):=List.getElem?_set_self D8.i1;have hw7i:(p1.fr.set i (some w8))[i]?=some (some w8):=List.getElem?_set_self D8.i2;obtain⟨dx9,h9⟩:=D8.cx.ss.me;have C8:=D8.cx;rfl';refine OD (λ_=>?_) (λ_=>⟨L8,_,_,D8.cx,D8.ap,hM.add ht (D8.ff.alsF hC.tw) (by show (s1.fr.set i (some r)).length=_;rw[List.length_set];exact fc2) fc3 (by rw[D8.rb];exact hb) (.inl D8.rk),lv9 r,D8.zv,D8.km,D8.lm⟩);obtain⟨w2,hw2⟩:=bI ((nb:Int) / 983040);refine⟨_,kA.of D8.kw,_,hw2,λt2 ht2=>?_⟩;rw[show (100:Int)+(t:Int)=((100+t:Nat):Int) by omega];obtain⟨b2,c2⟩:=FB (o:=.tup [V.str w2,V.int ((nb:Int) % 5),V.int ((100+t:Nat):Int)]) ht2;have C81:=C8.same b2;have z81:Zv [1,2,4] L8 L8 G8 _:=Zv.of b2;have h91:=b2 _ _ h9;generalize upd G8 t2 _=G81 at *;refine⟨dx9,_,h91,EC ∅,λt1 ht1=>?_⟩;obtain⟨b1,c1⟩:=FB (o:=.tup [V.str "frame",V.int (i:Int)]) ht1;have C82:=C81.same b1;have z82:Zv [1,2,4] L8 L8 G8 _:=z81.trans (Zv.of b1);have c22:=b1 _ _ c2;generalize upd G81 t1 _=G82 at *;clear C81 z81 h91 c2 b2 b1 h9;refine⟨z,_,t1,t2,true,i,r,CK w2 ((nb:Int) % 5) t,rfl,C82.ss,C82.ap,c1,hr7,c22,?_,by rw[D8.rk];show 1<=2000;decide,λH1 S9 A9 k9 d9=>?_⟩
   ·rw[D8.rk];intro z9;have z9:=List.mem_singleton.mp z9;injection z9 with _ z9;injection z9 with _ z9;injection z9 with z9 _;have:((100+t:Nat):Int)=(t:Int):=Sum.inl.inj z9;omega
   have z9:Zv [] L8 L8 G82 H1:=Zv.ks C82.ss S9 (k9.kd C82.ss (jD.mpr (.inl (List.mem_of_getElem? hr7)))) C82.l0 C82.lp.q.lv d9;have lp9:=C82.lp.zv z9 (C82.lp.q.lv.zv z9);obtain⟨us9,hf9,hul9,hrows9⟩:=lp9.q.hf;have hln8:=lp9.q.ln;have hi2:=D8.i2;obtain⟨o9,ho9⟩:∃o,p1.tf[i]?=some o:=⟨_,List.getElem?_eq_getElem (by have:=hln8.1;rw[show ({p1 with fr:=p1.fr.set i (some w8)}:St).fr=p1.fr.set i (some w8) from rfl,List.length_set] at this;have:p1.tf.length=p1.fr.length:=this;omega)⟩
   obtain⟨v9,hv9,⟨rfl,x1,x2,⟨ls,x3,x4⟩,x5,x6,x7⟩⟩:=hrows9 i (some w8) o9 hw7i ho9;have hls:=Paired.length x4;rw[D8.wk] at hls;have hls:ls.length=1:=hls;have c29:=z9.tup c22;refine⟨_,kA.of lp9.q.hp,_,xA (j:=0) rfl,fl,rfl,_,kA.of hf9,_,xA hv9,w8.sh,rfl,_,kA.of x1,_,xA (j:=1) rfl,.inl ⟨rfl,_,kA.of x3⟩,w8.hd,rfl,ls,x3,⋯,?_⟩;have lp11:=lp9.ks (f:=true) (j:=i) (w:=w8) (ks':=w8.ks++[CK w2 ((nb:Int) % 5) t]) (us':=ls++[V.ref t2]) D8.ap hw7i (by rw[D8.wk];simp) (JE x4 ⟨t2,rfl,(show H1 t2=some (.tup ((CK w2 ((nb:Int) % 5) t).map kV)) from c29)⟩);have m11:Mv [4] L8 L8 H1 (upd H1 w8.hd (.lst (ls++[V.ref t2]))):=Mv.set x3 (by rw[x7];simp);have cs10:Cs A H1 z _ L8:=⟨S9,C82.l0,λq hq=>(FN hq).elim (λe=>by cases e;exact C82.lb r (.inl (List.mem_of_getElem? hr7))) (C82.lb q)⟩
   have cs11:=cs10.mv m11 lp9.q.lv (by simp);have uC:Zv [1,2,4] L8 L8 G8 _:=(z82.trans (z9.sub (by simp))).trans ((m11.zv lp9.q.lv (by simp)).sub (by simp));obtain⟨mk11,lm11⟩:=uC.lst D8.km D8.lm (by decide) (by decide);have e9:({s1 with fr:=s1.fr.set i (some r)}:St).put true i (some {r with ks:=r.ks++[CK w2 ((nb:Int) % 5) t]})={s1 with fr:=s1.fr.set i (some {r with ks:=r.ks++[CK w2 ((nb:Int) % 5) t]})}:=by
    show ({s1 with fr:=(s1.fr.set i (some r)).set i _}:St)=_;rw[List.set_set]
   refine⟨L8,_,_,⟨cs11.ss,A9,C82.tw.put (f:=true) hr7,BJ (f:=true) C82.bx hr7 rfl,cs11.l0,cs11.lb,lp11,⟨cG (show jC (some _) (some _) from ⟨?_,?_⟩) i C82.si.fr,C82.si.sr,C82.si.tf,C82.si.ts,C82.si.h⟩,λq hq=>?_⟩,xQ (f:=true) (r':={w8 with ks:=w8.ks++[CK w2 ((nb:Int) % 5) t]}) D8.ap hw7i rfl,?_,?_,D8.zv.trans uC,mk11,lm11⟩
   ·obtain⟨y,hy1,hy2⟩:=C82.si.at hr7;have hy1:(p1.fr.set i (some w8))[i]?=some (some y):=hy1;rw[hw7i] at hy1;obtain rfl:=Option.some.inj (Option.some.inj hy1);exact hy2.1
   ·show (w8.ks++_).Perm (r.ks++_);rw[D8.wk,D8.rk]
   ·rcases FN hq with e|e
    ·cases e;obtain⟨_,_,y3⟩:=C82.ok r (.inl (List.mem_of_getElem? hr7));refine⟨?_,by simp,y3⟩;show vF (r.ks++_);rw[D8.rk];refine⟨by show 2 < 640;decide,?_,λk9 hk9=>?_⟩
     ·refine List.nodup_cons.mpr ⟨λz9=>?_,by simp⟩;have z9:=List.mem_singleton.mp z9;injection z9 with _ z9;injection z9 with _ z9;injection z9 with z9 _;have:(t:Int)=((100+t:Nat):Int):=Sum.inl.inj z9;omega
     ·rcases List.mem_append.mp hk9 with h|h<;>(rw[List.mem_singleton.mp h];exact⟨_,_,_,rfl⟩)
    ·exact C82.ok q e
   ·rw[e9];exact hM.add ht (D8.ff.alsF hC.tw) (by show (s1.fr.set i _).length=_;rw[List.length_set];exact fc2) fc3 (by show r.b.length=2;rw[D8.rb];exact hb) (.inr ⟨w2,(nb:Int) % 5,by show r.ks++_=_;rw[D8.rk];rfl⟩)
   ·rw[e9];exact lv9 _
  rintro⟨v11,L9,s9,p9,rfl,C9,A9,M9,hl9,z9,mk9,lm9⟩;subst hU9 hD9;clear D8;obtain⟨ws9,hs9,hwl9,hslo9⟩:=C9.lp.q.hs;have hlen9:=C9.len;have hln9:=C9.lp.q.ln;have hsr9:=M9.sr;have hfr9:=M9.fr;refine wA (λσ G'=>∃(so:Addr) (js:List Nat),σ=[some (.ref z.p),some (.ref pl),some (.ref a),some (.int (t:Int)),some (.int c),some (.int (nb:Int)),some (.ref mk),some (.ref sh0),some (.ref wd),some (.int (i:Int)),v11,some (.ref so)]/\iA G9 G'/\G' so=some (.lst (js.map λ(j:Nat)=>V.int (j:Int)))/\∀j∈js,∃q,s9.sr[j]?=some (some q)) ?_ λU9 D9 hU9 hD9 σ10 G10=>?_
  ·rfl';refine⟨_,kA.of C9.lp.q.hp,_,xA (j:=1) rfl,_,.inl ⟨_,kA.of hs9,rfl⟩,⋯,⋯,λD hD=>?_⟩;refine DG (λi9 ys σ H'=>∃(v:Option V) (js:List Nat),σ=[v,some (.ref pl)]/\iA G9 H'/\H' D=some (.lst ys)/\ys=(js.map λ(j:Nat)=>V.int (j:Int))/\js.length<=i9/\∀j∈js,∃q,s9.sr[j]?=some (some q)) ⟨_,[],rfl,HB iB hD,OA,rfl,Nat.le_refl _,λj hj=>by cases hj⟩ (λi9 ys σ H' hi9=>?_) (λys σ H5=>?_)
   ·rintro⟨v,js,rfl,b1,hD1,rfl,hjl,hjs⟩;have hi9:i9 < p9.sr.length:=⋯;obtain⟨r2,hr2⟩:∃r,p9.sr[i9]?=some r:=⟨_,List.getElem?_eq_getElem hi9⟩
    obtain⟨o2,ho2⟩:∃o,p9.ts[i9]?=some o:=⟨_,List.getElem?_eq_getElem ⋯⟩
    obtain⟨v2,hv2,hF2⟩:=hslo9 i9 r2 o2 hr2 ho2;rfl';rw[Int.zero_add];refine⟨_,kA.of (b1 _ _ C9.lp.q.hp),_,xA (j:=1) rfl,sl,rfl,_,kA.of (b1 _ _ hs9),_,xA hv2,?_⟩;cases r2 with
    |none=>
     cases o2 with
     |none=>
      obtain rfl:v2=.non:=hF2;exact wF (by rw[decide_eq_true rfl];rfl) ⟨b1,hD1,js,rfl,⋯,hjs⟩
     |some b=>
      obtain⟨ra,ba,ha,rfl,x1,_⟩:=hF2;refine mE (by rw[decide_eq_false (λz=>nomatch z)];rfl) ⟨_,kA.of (b1 _ _ C9.lp.q.hp),_,xA (j:=1) rfl,sl,rfl,_,kA.of (b1 _ _ hs9),_,xA hv2,ra,rfl,_,kA.of (b1 _ _ x1),_,xA (j:=2) rfl,?_⟩;rw[if_neg (λz=>nomatch z)];exact⟨b1,hD1,js,rfl,⋯,hjs⟩
    |some w2=>
     obtain⟨rfl,x1,_⟩:=hF2;refine mE (by rw[decide_eq_false (λz=>nomatch z)];rfl) ⟨_,kA.of (b1 _ _ C9.lp.q.hp),_,xA (j:=1) rfl,sl,rfl,_,kA.of (b1 _ _ hs9),_,xA hv2,w2.sh,rfl,_,kA.of (b1 _ _ x1),_,xA (j:=2) rfl,?_⟩;rw[if_pos (show oV none=V.non from rfl)];refine⟨hD1,by rw[List.length_map];omega,ZC b1 hD,js++[i9],by rw[List.map_append];rfl,by rw[List.length_append];show js.length+1<=i9+1;omega,λj hj=>?_⟩;rcases List.mem_append.mp hj with h|h
     ·exact hjs j h
     ·rw[List.mem_singleton.mp h];obtain⟨y,hy1,hy2⟩:=mF C9.si.sr hr2;cases y with
      |none=>exact hy2.elim
      |some q=>exact⟨q,hy1⟩
   ·rintro⟨v,js,rfl,b1,hD1,rfl,hjl,hjs⟩;exact⟨b1,js,hD1,hjs⟩
  rintro⟨so,js,rfl,b5,so5,hjs⟩;subst hU9 hD9;have C10:=C9.same b5;have mk10:=b5 _ _ mk9;rfl';refine⟨js.length,.inl ⟨_,kA.of so5,by rw[List.length_map]⟩,?_⟩;have hq:=q _ L9 s9 p9 C10 A9 M9 hl9 (z9.trans (Zv.of b5));refine OD (λhj0=>OD (λ_=>?_) (λ_=>hq)) (λ_=>UA hq);have e1:=Int.emod_nonneg ((nb:Int) / 6144) (show (js.length:Int)≠0 by omega);have e2:=Int.emod_lt_of_pos ((nb:Int) / 6144) (show (0:Int) < js.length by omega);obtain⟨x9,hx9⟩:∃x9:Nat,(nb:Int) / 6144 % (js.length:Int)=(x9:Int):=⟨((nb:Int) / 6144 % (js.length:Int)).toNat,⋯⟩
  obtain⟨j,hj⟩:∃j,js[x9]?=some j:=⟨_,List.getElem?_eq_getElem ⋯⟩
  obtain⟨q0,hq0⟩:=hjs j (List.mem_of_getElem? hj);refine⟨js.length,.inl ⟨_,kA.of so5,by rw[List.length_map]⟩,⋯,_,kA.of so5,V.int (j:Int),by rw[hx9];exact xA (by rw[List.getElem?_map,hj];rfl),z,s9,L9,pl,fl,sl,mk,p9,j,ms,q0,rfl,C10,hq0,mk10,lm9,⋯,λH' L' s2 p2 i2 ps2 out2 out3 a7 y1 y2 y3 y4 y5=>?_⟩;have pm:=y1.alsB C9.tw hq0;obtain⟨b1,b2,_⟩:=wJ (s1:=s2) (i:=i2) (j:=j) (c:=q0) (out:=out3);obtain⟨_,f2,f3,_⟩:=y1.facts C9.tw;exact q H' L' _ _ y3 (y4 A9) (M9.pm pm (by rw[b1,List.length_set];exact f2) (by rw[b2];split<;>first|exact f3|(rw[List.length_set];exact f3))) (by rw[CM,pm.length_eq,<-CM];exact hl9) ((z9.trans (Zv.of b5)).trans (y5.sub (by simp)))
noncomputable def qE (n m:Nat):St:=⟨List.replicate n none,List.replicate m none,0,0,0,0,List.replicate n none,List.replicate m none⟩
theorem P0 {A:UD} {G G6:Hp} {z:Ss} {L:Lb} {pl fl sl:Addr} {n m:Nat} (hS:lA A.Aa A.Ad A.Ac G z (qE n m)) (l0:∀c∈z.four,L c=0) (lv:Lv L G) (sm:iA G G6) (hp:G pl=none) (hf:G fl=none) (hs:G sl=none) (ne:pl≠fl/\pl≠sl/\fl≠sl) (gp:G6 pl=some (.lst [.ref fl,.ref sl,.int 0])) (gf:G6 fl=some (.lst (List.replicate n .non))) (gs:G6 sl=some (.lst (List.replicate m .non))):Cx A G6 z (qE n m) (lab (lab (lab L fl 1) sl 1) pl 1) pl fl sl (qE n m)/\Ap (qE n m)/\Mv [] L (lab (lab (lab L fl 1) sl 1) pl 1) G G6:=by
 have no:∀{k:Nat} {r:Sh},some r∉List.replicate k (none:Option Sh):=λh=>by cases List.eq_of_mem_replicate h
 have no2:∀{i k j:Nat},(List.replicate k (none:Option Nat))[i]?≠some (some j):=λh=>by cases List.eq_of_mem_replicate (List.mem_of_getElem? h)
 have nal:∀(k:Nat),als (List.replicate k none)=[]:=λk=>by unfold als;exact List.filterMap_eq_nil_iff.mpr λa ha=>by rw[List.eq_of_mem_replicate ha];rfl
 have nhd:∀(k:Nat),SB (List.replicate k none)=[]:=λk=>by unfold SB;exact List.filterMap_eq_nil_iff.mpr λa ha=>by rw[List.eq_of_mem_replicate ha];rfl
 have hA:Ap (qE n m):=by
  unfold Ap qE;rw[SC,nhd,nhd];exact List.nodup_nil
 have hT:Tw (qE n m):=⟨λi j h=>absurd h no2,λi j h=>absurd h no2,λi j h=>absurd h no2,λi j h=>absurd h no2⟩
 have hB:Bx (qE n m):=by
  unfold Bx JA qE;rw[GD,nal,nal];exact List.nodup_nil
 have prs:∀k:Nat,Paired jC (List.replicate k none) (List.replicate k none):=λk=>by
  induction k with
  |zero=>exact .nil
  |succ k ih=>exact .cons trivial ih
 have mv:Mv [] L (lab (lab (lab L fl 1) sl 1) pl 1) G G6:=⟨λc=>by
  by_cases e1:c=pl
  ·rw[e1];exact .inr hp
  ·rw[KC e1];by_cases e2:c=sl
   ·rw[e2];exact .inr hs
   ·rw[KC e2];by_cases e3:c=fl
    ·rw[e3];exact .inr hf
    ·exact .inl (KC e3),λc o hc _=>sm _ _ hc,λc hc=>NB sm hc⟩
 have hlv:Lv (lab (lab (lab L fl 1) sl 1) pl 1) G6:=(((lv.same sm).lab iB gf).lab iB gs).lab iB gp;have lf:lab (lab (lab L fl 1) sl 1) pl 1 fl=1:=by rw[KC (Ne.symm ne.1),KC ne.2.2];exact rD
 have ls:lab (lab (lab L fl 1) sl 1) pl 1 sl=1:=by rw[KC (Ne.symm ne.2.1)];exact rD
 have cs:Cs A G6 z (qE n m) (lab (lab (lab L fl 1) sl 1) pl 1):=Cs.mv (L:=L) (H:=G) ⟨hS,l0,λr hr=>hr.elim (λh=>absurd h no) (λh=>absurd h no)⟩ mv lv (by simp);refine⟨⟨cs.ss,hA,hT,hB,cs.l0,cs.lb,⟨⟨gp,⟨_,gf,by rw[List.length_replicate];exact List.length_replicate.symm,λi r o hr ho=>?_⟩,⟨_,gs,by rw[List.length_replicate];exact List.length_replicate.symm,λi r o hr ho=>?_⟩,⟨rD,lf,ls⟩,ne,⟨by show (List.replicate n none).length=(List.replicate n none).length;rw[List.length_replicate,List.length_replicate],by show (List.replicate m none).length=(List.replicate m none).length;rw[List.length_replicate,List.length_replicate]⟩,hlv⟩,hT⟩,⟨prs n,prs m,rfl,rfl,rfl⟩,λr hr=>hr.elim (λh=>absurd h no) (λh=>absurd h no)⟩,hA,mv⟩
 ·have hr:(List.replicate n (none:Option Sh))[i]?=some r:=hr;obtain rfl:r=none:=List.eq_of_mem_replicate (List.mem_of_getElem? hr);have hi:=(List.getElem?_eq_some_iff.mp hr).1;rw[List.length_replicate] at hi;exact⟨.non,by rw[List.getElem?_replicate,if_pos hi],rfl⟩
 ·have hr:(List.replicate m (none:Option Sh))[i]?=some r:=hr;have ho:(List.replicate m (none:Option Nat))[i]?=some o:=ho;obtain rfl:r=none:=List.eq_of_mem_replicate (List.mem_of_getElem? hr);obtain rfl:o=none:=List.eq_of_mem_replicate (List.mem_of_getElem? ho);have hi:=(List.getElem?_eq_some_iff.mp hr).1;rw[List.length_replicate] at hi;exact⟨.non,by rw[List.getElem?_replicate,if_pos hi],rfl⟩
theorem RQ {n m:Nat}:JA (qE n m)=[]:=by
 have nal:∀(k:Nat),als (List.replicate k none)=[]:=λk=>by unfold als;exact List.filterMap_eq_nil_iff.mpr λa ha=>by rw[List.eq_of_mem_replicate ha];rfl
 unfold JA qE;rw[GD,nal,nal];rfl
theorem Q0 {n m:Nat}:Me n m 0 (qE n m):=by
 have e4:aE (qE n m)=[]:=by unfold aE;rw[RQ];rfl
 refine⟨List.length_replicate,List.length_replicate,?_,?_,?_,?_,?_⟩
 ·rw[e4];exact List.nodup_nil
 ·rw[e4];exact λk hk=>(List.not_mem_nil hk).elim
 ·rw[e4];exact λk hk=>(List.not_mem_nil hk).elim
 ·rw[e4];exact Nat.le_refl _
 ·rw[RQ];exact λk hk=>(List.not_mem_nil hk).elim
structure Lw (K:W.Frag) (A:UD) (z:Ss) (n m t:Nat) (pl fl sl a:Addr) (ns:List Int) (s:St) (L:Lb) (p:St) (G:Hp):Prop where
 cx:Cx A G z s L pl fl sl p
 ap:Ap p
 me:Me n m t s
 sc:oF K G L a (ns.map V.int)
theorem Lw.rgt {K:W.Frag} {A:UD} {z:Ss} {n m t:Nat} {pl fl sl a:Addr} {ns:List Int} {s:St} {L:Lb} {p:St} {G:Hp} (h:Lw K A z n m t pl fl sl a ns s L p G) (ht:t<=100) {G':Hp} {L':Lb} {p':St} (c:Cx A G' z (DA s).s L' pl fl sl p') (ha:Ap p') (hz:Zv [1,4] L L' G G'):Lw K A z n m t pl fl sl a ns (DA s).s L' p' G':=⟨c,ha,h.me.fold ht,h.sc.zv hz (by decide)⟩
theorem Lw.same {K:W.Frag} {A:UD} {z:Ss} {n m t:Nat} {pl fl sl a:Addr} {ns:List Int} {s:St} {L:Lb} {p:St} {G G':Hp} (h:Lw K A z n m t pl fl sl a ns s L p G) (e:iA G G'):Lw K A z n m t pl fl sl a ns s L p G':=⟨h.cx.same e,h.ap,h.me,h.sc.zv (Zv.of (S:=[]) e) (by simp)⟩
noncomputable def cI (K:W.Frag):Sp:=λvs H Q _=>∃(a:Addr) (ns:List Int),vs=[.ref a]/\kA K H a (ns.map V.int)/\ns.length<=63/\∀H',Q (.bl true) H'
theorem R0 (T:MB K mg A):RD P w K mg base "law" BN ["_law_script","_law_frames","_law_slots","_law_sheets","_law_plain","_law_many","_law_k","_law_full"] 12 (cI K):=by
 intro f cdv A' outer s H vs Q E hr z;obtain⟨a,ns,rfl,hs,hn,qq⟩:=z;have At:=@bW P w K mg base A T a ns;have Ev:=@EM P w K mg base A T a ns;have Cn:=@BM P w K mg base A T;have Ei:=@VL P w K mg base A T;have hz:=PySem.sizeLine_eq;refine⟨_,(aB (mB (i:=1) bG.nd rfl (Or.inl rfl) (VA zD rA (VA FC (pC At (hr.mono (by decide)) ZA (dA (aA 0) (dA rA nA))) rA)))
   (aB (mB (i:=2) bG.nd rfl (Or.inl rfl) (VA FC (pC At (hr.mono (by decide)) ZA (dA (aA 0) (dA rA nA))) rA))
   (nB (GB (qB vE (VA FC (VA ZE (pC At (hr.mono (by decide)) ZA (dA (aA 0) (dA rA nA))) rA) rA) rA (gA _)) (aB (mB (i:=1) bG.nd rfl (Or.inl rfl) (VA zD rA (VA FC (VA ZE (pC At (hr.mono (by decide)) ZA (dA (aA 0) (dA rA nA))) rA) rA)))
   (BA (mB (i:=2) bG.nd rfl (Or.inl rfl) (VA FC (VA ZE (pC At (hr.mono (by decide)) ZA (dA (aA 0) (dA rA nA))) rA) rA)))) XB)
   (nB (mB (i:=3) bG.nd rfl (Or.inl rfl) (VM Ei (hr.mono (by decide)) ZA (dA (aA 1) (dA (aA 2) (dA rA nA)))))
   (nB (mB (i:=4) bG.nd rfl (Or.inl rfl) (UC (dA (sF rfl (RE rfl T.Ao (dA (aA 1) nA)) (x:="_law_k") (fs:=[]) (ix:=[]) rfl rfl (λ_ _ _ _ _ _=>(wC (i:=0) (show (["_law_k"]:List Str).Nodup by decide+kernel) rfl (Or.inl rfl))) (λ_ _ _ _ _ _=>nG) (λ_ _ _ _ _ _=>lB)) (dA (sF rfl (RE rfl T.Ao (dA (aA 2) nA)) (x:="_law_k") (fs:=[]) (ix:=[]) rfl rfl (λ_ _ _ _ _ _=>(wC (i:=0) (show (["_law_k"]:List Str).Nodup by decide+kernel) rfl (Or.inl rfl))) (λ_ _ _ _ _ _=>nG) (λ_ _ _ _ _ _=>lB)) (dA rA nA)))))
   (nB (mB (i:=5) bG.nd rfl (Or.inl rfl) (DB (fU rfl) rfl T.Ft PyProof.Rows.boot_max (dA rA (dA (VA ZT (VA zD (aA 1) (aA 2)) (VA FC (VA ZE (pC At (hr.mono (by decide)) ZA (dA (aA 0) (dA rA nA))) rA) rA)) nA))))
   (nB (rF PassesOwn.leaving rfl (RE rfl T.Ao (dA (aA 5) nA)) (wC (i:=6) bG.nd rfl (Or.inl rfl)) (BA (aD (pC Ev (hr.mono (by decide)) ZA (dA (aA 3) (dA (aA 4) (dA (aA 0) (dA (aA 6) nA))))))))
   (nB (GB (PW.pt (LK (lG (XD (pC Cn (hr.mono (by decide)) ZA (dA (aA 3) (dA (aA 4) nA))))) (JK (lG (XD (pC Cn (hr.mono (by decide)) ZA (dA (aA 3) (dA (aA 4) nA)))))))) (BA (zB kG)) XB)
   (nB (qL (i:=7) bG.nd rfl rfl rfl (qF (yA SA (aA 4) rA (λ_ _=>rfl))) (x:="_law_one") (fs:=[]) (ix:=[]) rfl rfl (λ_ _ _ _ _ _=>(wC (i:=0) (show (["_law_one"]:List Str).Nodup by decide+kernel) rfl (Or.inl rfl))) (λ_ _ _ _ _ _=>(FI (qB MD (aA 0) lB (gA _)))) (λ_ _ _ _ _ _=>(aA 0)))
   (nB (mB (i:=7) bG.nd rfl (Or.inl rfl) (VA vO (aA 7) (sF rfl (qF (yA SA (aA 4) rA (λ_ _=>rfl))) (x:="_law_one") (fs:=[]) (ix:=[]) rfl rfl (λ_ _ _ _ _ _=>(wC (i:=0) (show (["_law_one"]:List Str).Nodup by decide+kernel) rfl (Or.inl rfl))) (λ_ _ _ _ _ _=>(FI (PW.pt (QE (qB MD (aA 0) lB (gA _)) (OE (qB LD (yA (FG (K:=K) rfl) (aA 0) rA (λ_ _=>rfl)) lB (gA _))))))) (λ_ _ _ _ _ _=>(aA 0)))))
   (nB (GB (qB PM (DB yC rfl T.Aj PySem.boot_len (dA (aA 7) nA)) (VA zD (aA 1) (aA 2)) (gA _)) (BA (aD (pC Ev (hr.mono (by decide)) ZA (dA (aA 3) (dA (aA 4) (dA (aA 0) (dA (aA 5) nA))))))) XB)
   (BA (zB (pC Cn (hr.mono (by decide)) ZA (dA (aA 3) (dA (aA 4) nA)))))))))))))))),?_⟩
 rfl';refine⟨0,rfl,hs,⋯,_,rfl,1,rfl,hs,⋯,_,rfl,?_⟩;generalize ns.getD (Int.toNat 0) 0=y0;generalize ns.getD (Int.toNat 1) 0=y1;refine wA (λσ G=>∃n m:Nat,σ=[some (.ref a),some (.int (n:Int)),some (.int (m:Int)),none,none,none,none,none]/\G=H/\1<=n/\n<=20/\m<=20) ?_ λU9 D9 hU9 hD9 σ0 G0=>?_
 ·rfl';refine⟨0,rfl,hs,⋯,_,rfl,?_⟩;generalize ns.getD (Int.toNat 0) 0=y2;refine OD (λ_=>⟨0,rfl,hs,⋯,_,rfl,0,rfl,hs,⋯,_,rfl,?_⟩) (λ_=>⟨(1+y0 % 5).toNat,⋯,(y1 % 6).toNat,⋯,rfl,⋯,⋯,⋯⟩);generalize ns.getD (Int.toNat 0) 0=y3;exact⟨(1+y3 / 20 % 20).toNat,⋯,(y3 / 400 % 21).toNat,⋯,rfl,⋯,⋯,⋯⟩
 rintro⟨n,m,rfl,rfl,hn1,hn20,hm20⟩;subst hU9 hD9;refine wA (λσ G=>∃z:Ss,σ=[some (.ref a),some (.int (n:Int)),some (.int (m:Int)),some (.ref z.p),none,none,none,none]/\iA G0 G/\lA A.Aa A.Ad A.Ac G z (qE n m)/\∀c∈z.four,G0 c=none) ?_ λU9 D9 hU9 hD9 σ2 G2=>?_
 ·rfl';intro x dx hx hdx hne;have sm:=WM (o:=.ins A.Aa dx []) hx hdx hne;refine⟨x,dx,n,m,2,rfl,OA,hn1,⋯,⋯,λH' y hy e1 e2 kp=>⟨rfl,?_⟩⟩;subst e1;exact⟨y,rfl,λc o h=>kp c o (sm c o h) (λz=>BB h hx (List.mem_singleton.mp z)),hy,λc hc=>NB sm (e2 c hc)⟩
 rintro⟨z,rfl,s2,hS2,f2⟩;subst hU9 hD9;obtain⟨L0,hScr0,hLv0,hL05⟩:=oF.of hs;have hScr2:oF K G2 L0 a (ns.map V.int):=hScr0.zv (Zv.of (S:=[]) s2) (by simp);have hLv2:=hLv0.same s2;have l02:∀c∈z.four,L0 c=0:=λc hc=>Decidable.byContradiction λe=>by
  obtain⟨us,h⟩:=hLv0 c e;rw[f2 c hc] at h;cases h
 refine wA (λσ G=>∃(L:Lb) (pl fl sl:Addr),σ=[some (.ref a),some (.int (n:Int)),some (.int (m:Int)),some (.ref z.p),some (.ref pl),none,none,none]/\Lw K A z n m 0 pl fl sl a ns (qE n m) L (qE n m) G) ?_ λU9 D9 hU9 hD9 σ3 G3=>?_
 ·rfl';refine⟨⋯,⋯,λfl hfl=>?_⟩;refine DG (λi ys σ H'=>∃(v:Option V),σ=[v]/\iA G2 H'/\H' fl=some (.lst ys)/\ys=List.replicate i V.non) ⟨_,rfl,HB iB hfl,OA,rfl⟩ (λi ys σ H' hi=>?_) (λys σ H5=>?_)
  ·rintro⟨v,rfl,s1,hD1,rfl⟩;rfl';exact⟨hD1,by rw[List.length_replicate];omega,ZC s1 hfl,by rw[<-List.replicate_succ'];rfl⟩
  rintro⟨v,rfl,s1,hD1,rfl⟩;rw[Int.toNat_natCast] at hD1;refine⟨⋯,⋯,λsl hsl=>?_⟩;refine DG (λi ys σ H'=>∃(v:Option V),σ=[v]/\iA H5 H'/\H' sl=some (.lst ys)/\ys=List.replicate i V.non) ⟨_,rfl,HB iB hsl,OA,rfl⟩ (λi ys σ H' hi=>?_) (λys σ H6=>?_)
  ·rintro⟨v,rfl,s1,hD1,rfl⟩;rfl';exact⟨hD1,by rw[List.length_replicate];omega,ZC s1 hsl,by rw[<-List.replicate_succ'];rfl⟩
  rintro⟨v,rfl,s6,hD6,rfl⟩;rw[Int.toNat_natCast] at hD6;intro pl hpl;obtain⟨a3,b3⟩:=FB (o:=.lst [V.ref fl,V.ref sl,V.int 0]) hpl;have hD16:=s6 _ _ hD1;have e1:pl≠fl:=λe=>by rw[e,hD16] at hpl;cases hpl
  have e2:pl≠sl:=λe=>by rw[e,hD6] at hpl;cases hpl
  have e3:fl≠sl:=BB hD1 hsl;have s26:=s1.trans s6;obtain⟨x1,x2,x3⟩:=P0 hS2 l02 hLv2 (s26.trans a3) (NB s26 hpl) hfl (NB s1 hsl) ⟨e1,e2,e3⟩ b3 (a3 _ _ hD16) (a3 _ _ hD6);exact⟨_,fl,sl,x1,x2,Q0,hScr2.zv (x3.zv hLv2 (by simp)) (by simp)⟩
 rintro⟨L3,pl,fl,sl,rfl,W3⟩;subst hU9 hD9;clear hScr0 hLv0 hL05 hScr2 hLv2 l02 hS2;refine wA (λσ G=>∃many:Nat,σ=[some (.ref a),some (.int (n:Int)),some (.int (m:Int)),some (.ref z.p),some (.ref pl),some (.int (many:Int)),none,none]/\G=G3/\many<=n+m) ?_ λU9 D9 hU9 hD9 σ4 G4=>?_
 ·rfl';refine⟨1,rfl,W3.sc.sq,⋯,_,rfl,?_⟩;generalize ns.getD (Int.toNat 1) 0=y2;exact⟨(if (n:Int)+(m:Int) - y2 / 6 % 4 > 1 then (n:Int)+(m:Int) - y2 / 6 % 4 else 1).toNat,by split<;>omega,rfl,by split<;>omega⟩
 rintro⟨many,rfl,rfl,hmy⟩;subst hU9 hD9;refine wA (λσ G=>∃v7 s L p,σ=[some (.ref a),some (.int (n:Int)),some (.int (m:Int)),some (.ref z.p),some (.ref pl),some (.int (many:Int)),v7,none]/\Lw K A z n m many pl fl sl a ns s L p G) ?_ λU9 D9 hU9 hD9 σ5 G5=>?_
 ·rfl';refine⟨⋯,⋯,iK (λk σ G=>∃v7 s L p,σ=[some (.ref a),some (.int (n:Int)),some (.int (m:Int)),some (.ref z.p),some (.ref pl),some (.int (many:Int)),v7,none]/\wB s=k/\Lw K A z n m k pl fl sl a ns s L p G) ⟨_,_,_,_,rfl,?_,W3⟩ (λk σ G hk=>?_) (λσ G=>?_)⟩
  ·rw[CM,RQ];rfl
  ·rintro⟨v7,s,L,p,rfl,hlv,W⟩;rw[Int.zero_add];have h1:=W.me.fr;have h2:=W.me.sr;rfl';refine⟨z,s,L,pl,fl,sl,p,n,m,k,rfl,W.cx,W.ap,W.me,⋯,by unfold room;omega,W.sc,λH' L' s' p' x1 x2 x3 x4 x5=>?_⟩;exact⟨s',⋯,L',p',x1,x2,x3,W.sc.zv x5 (by decide)⟩
  ·rintro⟨v7,s,L,p,rfl,hlv,W⟩;rw[Int.toNat_natCast] at W;exact⟨_,rfl,s,L,p,W⟩
 rintro⟨v7,s5,L5,p5,rfl,W5⟩;subst hU9 hD9;clear W3;refine wA (λσ G=>∃s L p,σ=[some (.ref a),some (.int (n:Int)),some (.int (m:Int)),some (.ref z.p),some (.ref pl),some (.int (many:Int)),v7,none]/\Lw K A z n m many pl fl sl a ns s L p G) ?_ λU9 D9 hU9 hD9 σ7 G7=>?_
 ·rfl';refine⟨z,s5,L5,pl,fl,sl,p5,n,m,many,rfl,W5.cx,W5.ap,W5.me,⋯,λH1 L1 p1 x1 x2 x3=>⟨_,rfl,UA ?_⟩⟩;have W6:=W5.rgt ⋯ x1 x2 x3;refine⟨z,_,L1,pl,fl,sl,p1,n,m,many,rfl,W6.cx,W6.ap,W6.me,⋯,λH2 Lz' p2 y1 y2 y3=>⟨_,rfl,UA ?_⟩⟩;exact⟨_,Lz',p2,W6.rgt ⋯ y1 y2 y3⟩
 rintro⟨s,L,p,rfl,W7⟩;subst hU9 hD9;clear W5;have C7:=W7.cx;have h64:=C7.ss.len;have hlen:=C7.len;refine wA (λσ G=>∃fu,σ=[some (.ref a),some (.int (n:Int)),some (.int (m:Int)),some (.ref z.p),some (.ref pl),some (.int (many:Int)),v7,some (.ref fu)]/\iA G7 G/\∃us,G fu=some (.lst us)/\us.length=kC p.fr) ?_ λU9 D9 hU9 hD9 σ8 G8=>?_
 ·obtain⟨us4,hf4,hul4,hr4⟩:=C7.lp.q.hf;have hln4:=C7.lp.q.ln;rfl';refine⟨_,kA.of C7.lp.q.hp,_,xA (j:=0) rfl,fl,rfl,⟨_,kA.of hf4⟩,λD hD=>GI (xs:=us4) (λk ys σ H'=>∃v,σ=[v]/\iA G7 H'/\H' D=some (.lst ys)/\ys.length=kC (p.fr.take k)) ⟨_,rfl,HB iB hD,OA,rfl⟩ (λk ys σ H' _ ⟨_,_,e,_⟩=>kA.of (e _ _ hf4)) (λk v ys σ H' hk=>?_) (λys σ H'=>?_)⟩
  ·rintro⟨v',rfl,s5,hD5,hl5⟩;have hkl:=(List.getElem?_eq_some_iff.mp hk).1;obtain⟨r,hr⟩:∃r,p.fr[k]?=some r:=⟨_,List.getElem?_eq_getElem ⋯⟩
   obtain⟨o,ho⟩:∃o,p.tf[k]?=some o:=⟨_,List.getElem?_eq_getElem ⋯⟩
   obtain⟨v2,hv2,hF2⟩:=hr4 k r o hr ho;rw[hk] at hv2;obtain rfl:v=v2:=Option.some.inj hv2;have hcl:=FH (rows:=p.fr.take k);rw[List.length_take] at hcl;rfl';cases r with
   |none=>
    obtain rfl:v=.non:=hF2;exact wF (by rw[decide_eq_true rfl];rfl) ⟨s5,hD5,by rw[hl5,BK hr]⟩
   |some r=>
    obtain⟨rfl,_⟩:=hF2;exact mE (by rw[decide_eq_false (λz=>nomatch z)];rfl) ⟨hD5,⋯,ZC s5 hD,by rw[List.length_append,hl5,XN hr];rfl⟩
  ·rintro⟨v',rfl,s5,hD5,hl5⟩;rw[hul4,List.take_length] at hl5;exact⟨s5,_,hD5,hl5⟩
 rintro⟨fu,rfl,s8,us8,fu8,ul8⟩;subst hU9 hD9;have C8:=C7.same s8;refine wA (λσ G=>∃fu,σ=[some (.ref a),some (.int (n:Int)),some (.int (m:Int)),some (.ref z.p),some (.ref pl),some (.int (many:Int)),v7,some (.ref fu)]/\iA G8 G/\∃us,G fu=some (.lst us)/\us.length=kC p.fr+kC p.sr) ?_ λU9 D9 hU9 hD9 σ9 G9=>?_
 ·obtain⟨us4,hf4,hul4,hr4⟩:=C8.lp.q.hs;have hln4:=C8.lp.q.ln;rfl';refine⟨_,kA.of C8.lp.q.hp,_,xA (j:=1) rfl,sl,rfl,⟨_,kA.of hf4⟩,λD hD=>GI (xs:=us4) (λk ys σ H'=>∃v,σ=[v]/\iA G8 H'/\H' D=some (.lst ys)/\ys.length=kC (p.sr.take k)) ⟨_,rfl,HB iB hD,OA,rfl⟩ (λk ys σ H' _ ⟨_,_,e,_⟩=>kA.of (e _ _ hf4)) (λk v ys σ H' hk=>?_) (λys σ H'=>?_)⟩
  ·rintro⟨v',rfl,s6,hD5,hl5⟩;have hkl:=(List.getElem?_eq_some_iff.mp hk).1;obtain⟨r,hr⟩:∃r,p.sr[k]?=some r:=⟨_,List.getElem?_eq_getElem ⋯⟩
   obtain⟨o,ho⟩:∃o,p.ts[k]?=some o:=⟨_,List.getElem?_eq_getElem ⋯⟩
   obtain⟨v2,hv2,hF2⟩:=hr4 k r o hr ho;rw[hk] at hv2;obtain rfl:v=v2:=Option.some.inj hv2;have hcl:=FH (rows:=p.sr.take k);rw[List.length_take] at hcl;rfl';cases r with
   |none=>
    cases o with
    |none=>
     obtain rfl:v=.non:=hF2;exact wF (by rw[decide_eq_true rfl];rfl) ⟨s6,hD5,by rw[hl5,BK hr]⟩
    |some i=>
     obtain⟨a9,ba,ha,rfl,x1,_⟩:=hF2;refine mE (by rw[decide_eq_false (λz=>nomatch z)];rfl) ⟨_,rfl,_,kA.of (s6 _ _ x1),_,xA (j:=2) rfl,?_⟩;rw[if_neg (by simp)];exact⟨s6,hD5,by rw[hl5,BK hr]⟩
   |some r=>
    obtain⟨rfl,x1,_⟩:=hF2;refine mE (by rw[decide_eq_false (λz=>nomatch z)];rfl) ⟨_,rfl,_,kA.of (s6 _ _ x1),oV none,xA (j:=2) rfl,?_⟩;rw[if_pos (by simp[oV])];exact⟨hD5,⋯,ZC s6 hD,by rw[List.length_append,hl5,XN hr];rfl⟩
  ·rintro⟨v',rfl,s6,hD5,hl5⟩;rw[hul4,List.take_length] at hl5;have hc1:=FH (rows:=p.fr);have hc2:=FH (rows:=p.sr);refine⟨us8,s6 _ _ fu8,ys,hD5,⋯,λq hq=>⟨s6.trans (HB iB hq),_,rfl,by rw[List.length_append,ul8,hl5]⟩⟩
 rintro⟨fu9,rfl,s9,us9,hfu9,ul9⟩;subst hU9 hD9;have W9:=W7.same (s8.trans s9);refine wA (λσ G=>∃t s L p,t<=100/\σ=[some (.ref a),some (.int (n:Int)),some (.int (m:Int)),some (.ref z.p),some (.ref pl),some (.int (many:Int)),v7,some (.ref fu9)]/\Lw K A z n m t pl fl sl a ns s L p G) ?_ λU9 D9 hU9 hD9 σ10 G10=>?_
 ·rfl';refine⟨us9.length,.inl ⟨_,kA.of hfu9,rfl⟩,?_⟩;refine OD (λhlt=>?_) (λ_=>⟨many,⋯,s,L,p,W9⟩);have h1:=W9.me.fr;have h2:=W9.me.sr;have e1:=YN C7.si.fr;have e2:=YN C7.si.sr;refine⟨z,s,L,pl,fl,sl,p,n,m,many,rfl,W9.cx,W9.ap,W9.me,⋯,by unfold room wB;omega,W9.sc,λH' L' s' p' x1 x2 x3 x4 x5=>?_⟩;exact⟨many+1,⋯,s',L',p',x1,x2,x3,W9.sc.zv x5 (by decide)⟩
 rintro⟨t,s,L,p,ht,rfl,W⟩;subst hU9 hD9;rfl';exact⟨z,s,L,pl,fl,sl,p,n,m,t,rfl,W.cx,W.ap,W.me,ht,λH' _ _ _ _ _=>qq H'⟩
end
theorem SQ {l:W.OpenLaw} {q:Program} {loose:List Str} {XP:(Str->Option Value)->Heap->Prop} {YP:World->Heap->Prop} {d:DefRec} {K:Params->W.Frag} (hn:l.most=some 63) (hdf:d.params.defaults=[]) (hdn:d.name="law")
  (hY:∀(w:World) (h:Heap),YP w h->(K w.params).In h)
  (F:∀(w:World) (mg:Str->Option Value) (h:Heap),(K w.params).In h->h.Ns mainGlobals mg->∃A:UD,MB (K w.params) mg A):
  W.WalkO q loose XP YP l.row.toRowW d [] (λf vs=>PySem.call f vs):=by
 refine L2.XX (n:=63) (k:=12+1) (x:="_law_script") (CX:=λw=>dE l.prog w) (sp:=λw=>cI (K w.params)) hn (by decide) hdf ⟨rfl,by decide,by decide⟩ hY ?_ (λ_ _ a ns hl _ hS=>⟨a,ns,rfl,hS,hl,λ_=>rfl⟩) λ_ _ _ _ _ ⟨_,_,_,_,_,_,_,_,_,_,z⟩=>z;intro w mg fa h KX G hmg;rw[hdn] at hmg;obtain⟨A,T⟩:=F w mg h KX G;obtain⟨f,fd,e,Fn,hb⟩:=T.Gh;have e0:=hmg.symm.trans e;cases e0;exact⟨fd,hb,λbase _ _=>Fn.okE bG (λvs H Q E z=>by obtain⟨a,ns,rfl,_⟩:=z;rfl) (R0 (P:=l.prog) (w:=w) (base:=base) T)⟩
noncomputable section
open Hd
noncomputable def z0:Nat:=205764524536662382283787175989148854561027363216390428289824792159744189037
noncomputable def z1:Nat:=27127582262911072
noncomputable def z2:Nat:=9700865007064396754801562313776
noncomputable def z3:Nat:=545146499936607105348423
noncomputable def z4:Nat:=122585060169398306681810272
noncomputable def z5:Nat:=497995685371741280038240
noncomputable def z6:Nat:=554461310576473642528096
noncomputable def z7:Nat:=455125450472104437637216
noncomputable def z8:Nat:=500416517772168279997240570217455712
noncomputable def z9:Nat:=140854816109632365363434125429399349832812124725344
noncomputable def dI:Nat:=116512133262362862868258912
noncomputable def uC:Nat:=1735222900
noncomputable def FM:Nat:=126883625529449
noncomputable def DK:Nat:=6944679725401530464
noncomputable def LG:Nat:=604688386180134175214183720302048103
noncomputable def EK:Nat:=6944679699547512928
noncomputable def MG:Nat:=504229161332
noncomputable def NC:Nat:=154800023163187350263413837515144196967
noncomputable def NG:Nat:=1970303348
noncomputable def fI:Nat:=439938610023
noncomputable def TQ:Nat:=133512874028327697487130724
noncomputable def GM:Nat:=526145126919991160106336
noncomputable def UQ:Nat:=549795074702062171352416
noncomputable def s (n t:Nat):Value:=.str (S n) t
noncomputable def i (n:Int):Value:=.int n 0
noncomputable def e (P:Params) (n t:Nat) (v:Value):DictEntry:=DY P (S n) t v
noncomputable def fO (a b:String) (x:Stmt) (m r:Value):Obj:=⟨.type "function",none,.func (W.fnOf (Str.ofString a) (Str.ofString b) (fB x) (RA x) (bA x) .none .none .none m none r .none), #[]⟩
def o2:Obj:=⟨.none,none,.dict ⟨[]⟩ 0, #[]⟩
def o3 (P:Params):Obj:=dO 28 [e P 6944663249689206880 165 (s z0 607),e P z1 166 .none,e P 116512114954948911152848992 167 .none,e P 455126385231797511086176 168 (.builtin "__main__.__loader__#opaque"),e P 6944661016558198880 169 .none,e P 500416834696884185539869749159288928 170 (.ref 6),e P 29827167671303893903271485536 171 (.ref 4),e P 6944663245527933024 173 (s z2 172),e P 455125376429887381069920 174 .none,e P 469986605152 193 (.ref 21),e P z3 213 (.ref 31),e P 121429199908943 229 (.ref 44),e P 504413714548 241 (.ref 53),e P 504229161300 287 (.ref 82),e P 500186509652 340 (.ref 122),e P 128047577983316 606 (.ref 314),e P 2018578202597599112544 616 (.ref 325),e P 1889380072283105815904 625 (.ref 332),e P 8464076109328313696 640 (.ref 339),e P 1871007083449387478368 650 (.ref 346),e P 33040738751245664 658 (.ref 353),e P 1889597928417521724768 667 (.ref 360),e P z4 673 (.ref 365),e P z5 685 (.ref 372),e P 1999481813178129739104 698 (.ref 379),e P 1888873418424538262880 704 (.ref 384),e P z6 710 (.ref 389),e P 7889517 716 (.ref 394)]
def KA:Obj:=tO []
def S0:Obj:=tO [s 108 190]
def T0:Obj:=cO [s 469986605152 187,s 469986605152 188,s z2 189,i 1,i 1,i 0,i 0,i 3,.ref 15,(.bool true),i 181,.ref 16,.none,.ref 17,.ref 18,.ref 19,i 191,i 1,s z2 192]
def U0:Obj:=fO "_wall" "_wall" (HA 0) (s 6944673128113922144 164) (.ref 20)
def V0:Obj:=⟨(.type "tuple"),none,.seq #[(.type "ValueError")] 0, #[]⟩
def bX:Obj:=⟨(.type "tuple"),none,.seq #[] 0, #[]⟩
def W0 (P:Params):Obj:=dO 3 [e P z7 203 (s 154789842426610354947036250589871895399 194),e P z8 207 (.int (5) 206),e P z9 208 (.ref 29),e P dI 210 (.ref 32),e P z1 211 .none]
def X0:Obj:=⟨(.type "type"),none,.cls {name:=(Str.ofString "FrameError"),bases:=[(.type "ValueError")],mro:=[.ref 31,(.type "ValueError"),(.type "Exception"),(.type "BaseException"),(.type "object")],ns:=30,qualname:=(Str.ofString "FrameError"),hasDict:=true,slotNames:=[],subclasses:=[.ref 44],abstract:=false,collection:=none,hasDel:=false}, #[(some (.ref 22)),none,(some (s z3 196)),(some (s z3 204)),(some (.builtin "ValueError.__new__")),(some (.bool true))]⟩
def Y0:Obj:=⟨(.type "getset_descriptor"),none,.fields ⟨[s dI 209,.ref 31,(.builtin "ExceptionGroup.__weakref__"),.none]⟩, #[]⟩
def Z0:Obj:=⟨(.type "tuple"),none,.seq #[.ref 31] 0, #[]⟩
def j1 (P:Params):Obj:=dO 2 [e P z7 221 (s 154789842426610354947036250589871895399 194),e P z8 225 (.int (7) 224),e P z9 226 (.ref 42),e P z1 227 .none]
def K1:Obj:=⟨(.type "type"),none,.cls {name:=(Str.ofString "NoRoom"),bases:=[.ref 31],mro:=[.ref 44,.ref 31,(.type "ValueError"),(.type "Exception"),(.type "BaseException"),(.type "object")],ns:=43,qualname:=(Str.ofString "NoRoom"),hasDict:=true,slotNames:=[],subclasses:=[],abstract:=false,collection:=none,hasDel:=false}, #[(some (.ref 35)),none,(some (s 121429199908943 214)),(some (s 121429199908943 222)),(some (.builtin "ValueError.__new__")),(some (.bool true))]⟩
def M1:Obj:=tO [s 500035707502 235,s 1701798505 236,s 111490714854001 237,s 439770836337 238]
def N1:Obj:=cO [s 504413714548 232,s 504413714548 233,s z2 234,i 10,i 2,i 0,i 0,i 3,.ref 47,(.bool true),i 181,.ref 48,.none,.ref 49,.ref 50,.ref 51,i 239,i 10,s z2 240]
def O1:Obj:=fO "swept" "swept" (HA 5) (s 604424633459520194665304702243205991 230) (.ref 52)
def P1:Obj:=tO [s uC 259,s 499935440995 260,s FM 261]
def Q1:Obj:=cO [s DK 256,s 1954753563970360692704800173091156 257,s z2 258,i 20,i 3,i 0,i 0,i 3,.ref 61,(.bool true),i 181,.ref 62,.none,.ref 63,.ref 64,.ref 65,i 262,i 20,s z2 263]
def R1:Obj:=fO "__init__" "Sheet.__init__" (cA (HA 7) 0) (s LG 242) (.ref 66)
def T1:Obj:=tO [s uC 268]
def U1:Obj:=cO [s 36039771160920033285907509365 265,s 10144293748177338121204804511615218490960212 266,s z2 267,i 24,i 1,i 0,i 0,i 3,.ref 68,(.bool true),i 181,.ref 69,.none,.ref 70,.ref 71,.ref 72,i 269,i 24,s z2 270]
def V1:Obj:=fO "told_holders" "Sheet.told_holders" (cA (HA 7) 1) (s LG 242) (.ref 73)
def W1:Obj:=cO [s 1870501547802382857322 272,s 526499379604921715462623747400690004 273,s z2 274,i 27,i 1,i 0,i 0,i 3,.ref 75,(.bool true),i 181,.ref 76,.none,.none,.none,.ref 77,i 275,i 27,s z2 276]
def X1:Obj:=fO "is_banked" "Sheet.is_banked" (cA (HA 7) 2) (s LG 242) (.ref 78)
def Y1:Obj:=⟨(.type "tuple"),none,.seq #[(.str "boxes" 278),(.str "holders" 279)] 0, #[]⟩
def Z1 (P:Params):Obj:=dO 4 [e P z7 251 (s LG 242),e P z8 255 (.int (18) 254),e P DK 264 (.ref 67),e P 36039771160920033285907509365 271 (.ref 74),e P 1870501547802382857322 277 (.ref 79),e P z9 280 (.ref 80),e P EK 282 (.ref 83),e P dI 284 (.ref 84),e P z1 285 .none]
def K2:Obj:=⟨(.type "type"),none,.cls {name:=(Str.ofString "Sheet"),bases:=[(.type "object")],mro:=[.ref 82,(.type "object")],ns:=81,qualname:=(Str.ofString "Sheet"),hasDict:=true,slotNames:=[],subclasses:=[],abstract:=false,collection:=none,hasDel:=false}, #[none,none,(some (s 504229161300 244)),(some (s 504229161300 252)),(some (.builtin "object.__new__")),(some (.bool true))]⟩
def N2:Obj:=⟨(.type "getset_descriptor"),none,.fields ⟨[s EK 281,.ref 82,(.builtin "function.__dict__"),(.builtin "function.__dict__#set")]⟩, #[]⟩
def O2:Obj:=⟨(.type "getset_descriptor"),none,.fields ⟨[s dI 283,.ref 82,(.builtin "ExceptionGroup.__weakref__"),.none]⟩, #[]⟩
def P2:Obj:=tO [s uC 303,s 2054120046 304]
def Q2:Obj:=cO [s DK 300,s 1954753563970360692704796130439508 301,s z2 302,i 31,i 2,i 0,i 0,i 3,.ref 94,(.bool true),i 181,.ref 95,.none,.ref 96,.ref 97,.ref 98,i 305,i 31,s z2 306]
def VQ:Obj:=fO "__init__" "Spots.__init__" (cA (HA 8) 0) (s LG 242) (.ref 99)
def WQ:Obj:=tO [s uC 311,s 439770836337 312,s MG 313]
def XQ:Obj:=cO [s 148043559308712686361209447 308,s 41670557408582523668509479316187165782356 309,s z2 310,i 35,i 1,i 0,i 0,i 3,.ref 101,(.bool true),i 181,.ref 102,.none,.ref 103,.ref 104,.ref 105,i 314,i 35,s z2 315]
def YQ:Obj:=fO "first_empty" "Spots.first_empty" (cA (HA 8) 1) (s LG 242) (.ref 106)
def ZQ:Obj:=tO [s uC 320,s 1869248629 321]
def aR:Obj:=cO [s 526146714420258238851687 317,s 148097134187830361177623957051129491796 318,s z2 319,i 41,i 1,i 0,i 0,i 3,.ref 108,(.bool true),i 181,.ref 109,.none,.ref 110,.ref 111,.ref 112,i 322,i 41,s z2 323]
def bR:Obj:=fO "first_twin" "Spots.first_twin" (cA (HA 8) 2) (s LG 242) (.ref 113)
def cR:Obj:=cO [s 554573001519589316061805 325,s 156098422687084997236258294064131109204 326,s z2 327,i 47,i 1,i 0,i 0,i 3,.ref 115,(.bool true),i 181,.ref 116,.none,.none,.none,.ref 117,i 328,i 47,s z2 329]
def dR:Obj:=fO "live_count" "Spots.live_count" (cA (HA 8) 3) (s LG 242) (.ref 118)
def eR:Obj:=⟨(.type "tuple"),none,.seq #[(.str "lying" 331),(.str "twins" 332)] 0, #[]⟩
def fR (P:Params):Obj:=dO 4 [e P z7 295 (s LG 242),e P z8 299 (.int (29) 298),e P DK 307 (.ref 100),e P 148043559308712686361209447 316 (.ref 107),e P 526146714420258238851687 324 (.ref 114),e P 554573001519589316061805 330 (.ref 119),e P z9 333 (.ref 120),e P EK 335 (.ref 123),e P dI 337 (.ref 124),e P z1 338 .none]
def gR:Obj:=⟨(.type "type"),none,.cls {name:=(Str.ofString "Spots"),bases:=[(.type "object")],mro:=[.ref 122,(.type "object")],ns:=121,qualname:=(Str.ofString "Spots"),hasDict:=true,slotNames:=[],subclasses:=[],abstract:=false,collection:=none,hasDel:=false}, #[none,none,(some (s 500186509652 288)),(some (s 500186509652 296)),(some (.builtin "object.__new__")),(some (.bool true))]⟩
def iR:Obj:=⟨(.type "getset_descriptor"),none,.fields ⟨[s EK 334,.ref 122,(.builtin "function.__dict__"),(.builtin "function.__dict__#set")]⟩, #[]⟩
def jR:Obj:=⟨(.type "getset_descriptor"),none,.fields ⟨[s dI 336,.ref 122,(.builtin "ExceptionGroup.__weakref__"),.none]⟩, #[]⟩
def kR:Obj:=tO [s uC 358,s 127983287432039 359,s 500186508660 360,s 1719364212 361]
def lR:Obj:=cO [s DK 355,s 500416912376412337332427809224026452 356,s z2 357,i 52,i 4,i 0,i 0,i 3,.ref 134,(.bool true),i 181,.ref 135,.none,.ref 136,.ref 137,.ref 138,i 362,i 52,s z2 363]
def mR:Obj:=fO "__init__" "Sheets.__init__" (cA (HA 10) 0) (s NC 341) (.ref 139)
def nR:Obj:=tO [s uC 368,s MG 369,s FM 370,s 500035707502 371,s 8020600 372]
def oR:Obj:=cO [s 452924437351 365,s 32636645236508639938168121684 366,s z2 367,i 61,i 4,i 0,i 0,i 3,.ref 141,(.bool true),i 181,.ref 142,.none,.ref 143,.ref 144,.ref 145,i 373,i 61,s z2 374]
def pR:Obj:=fO "fresh" "Sheets.fresh" (cA (HA 10) 1) (s NC 341) (.ref 146)
def qR:Obj:=tO [s uC 379,s 1970302324 380,s 500035707502 381,s 114827736281188 382,s 8020600 383]
def rR:Obj:=cO [s 1818518115 376,s 131038040094645320163944788 377,s z2 378,i 68,i 3,i 0,i 0,i 3,.ref 148,(.bool true),i 181,.ref 149,.none,.ref 150,.ref 151,.ref 152,i 384,i 68,s z2 385]
def sR:Obj:=fO "back" "Sheets.back" (cA (HA 10) 2) (s NC 341) (.ref 153)
def tR:Obj:=tO [s uC 390,s NG 391,s FM 392,s MG 393]
def uR:Obj:=cO [s 1701671017 387,s 122618319342451338909215060 388,s z2 389,i 79,i 3,i 0,i 0,i 3,.ref 155,(.bool true),i 181,.ref 156,.none,.ref 157,.ref 158,.ref 159,i 394,i 79,s z2 395]
def vR:Obj:=fO "hold" "Sheets.hold" (cA (HA 10) 3) (s NC 341) (.ref 160)
def wR:Obj:=tO [s uC 400,s NG 401,s FM 402]
def xR:Obj:=cO [s 123593597216365 397,s 8905857253904022728413553256788 398,s z2 399,i 83,i 3,i 0,i 0,i 3,.ref 162,(.bool true),i 181,.ref 163,.none,.ref 164,.ref 165,.ref 166,i 403,i 83,s z2 404]
def yR:Obj:=fO "let_go" "Sheets.let_go" (cA (HA 10) 4) (s NC 341) (.ref 167)
def zR:Obj:=tO [s uC 409,s NG 410,s MG 411]
def AR:Obj:=cO [s 488476733378837491839081 406,s 35198458150785434460000437533358669850964 407,s z2 408,i 86,i 2,i 0,i 0,i 3,.ref 169,(.bool true),i 181,.ref 170,.none,.ref 171,.ref 172,.ref 173,i 412,i 86,s z2 413]
def BR:Obj:=fO "holders_of" "Sheets.holders_of" (cA (HA 10) 5) (s NC 341) (.ref 174)
def DR:Obj:=tO [s uC 418,s NG 419]
def ER:Obj:=cO [s 36344496227587819637979312233 415,s 2618896954680526433690932518906927297180625236 416,s z2 417,i 90,i 2,i 0,i 0,i 3,.ref 176,(.bool true),i 181,.ref 177,.none,.ref 178,.ref 179,.ref 180,i 420,i 90,s z2 421]
def FR:Obj:=fO "holder_count" "Sheets.holder_count" (cA (HA 10) 6) (s NC 341) (.ref 181)
def GR:Obj:=tO [s uC 426,s NG 427,s MG 428]
def HR:Obj:=cO [s 8458429107500640628 423,s 609494050826874274975507821181167956 424,s z2 425,i 93,i 2,i 0,i 0,i 3,.ref 183,(.bool true),i 181,.ref 184,.none,.ref 185,.ref 186,.ref 187,i 429,i 93,s z2 430]
def IR:Obj:=fO "sheet_at" "Sheets.sheet_at" (cA (HA 10) 7) (s NC 341) (.ref 188)
def JR:Obj:=tO [s uC 435,s fI 436,s 7958627 437]
def KR:Obj:=cO [s 113732352569443 432,s 8195279690427427246896753043796 433,s z2 434,i 97,i 3,i 0,i 0,i 3,.ref 190,(.bool true),i 181,.ref 191,.none,.ref 192,.ref 193,.ref 194,i 438,i 97,s z2 439]
def LR:Obj:=fO "box_of" "Sheets.box_of" (cA (HA 10) 8) (s NC 341) (.ref 195)
def MR:Obj:=tO [s uC 444,s fI 445,s 7958627 446,s 440073544311 447]
def NR:Obj:=cO [s 34182044304369268 441,s 2463075871870707541703845600454996 442,s z2 443,i 100,i 4,i 0,i 0,i 3,.ref 197,(.bool true),i 181,.ref 198,.none,.ref 199,.ref 200,.ref 201,i 448,i 100,s z2 449]
def OR:Obj:=fO "set_box" "Sheets.set_box" (cA (HA 10) 9) (s NC 341) (.ref 202)
def PR:Obj:=tO [s uC 454,s 2360878370155222899437929793546855 455,s 1718579304 456,s NG 457,s MG 458,s 504464894567 459]
def QR:Obj:=cO [s 1701671015 451,s 122618319198336150833359188 452,s z2 453,i 103,i 1,i 0,i 0,i 3,.ref 204,(.bool true),i 181,.ref 205,.none,.ref 206,.ref 207,.ref 208,i 460,i 103,s z2 461]
def SR:Obj:=fO "fold" "Sheets.fold" (cA (HA 10) 10) (s NC 341) (.ref 209)
def TR:Obj:=tO [s uC 466]
def UR:Obj:=cO [s 140789800901245672938236525 463,s 10144974318022661352875422811256588356446548 464,s z2 465,i 115,i 1,i 0,i 0,i 3,.ref 211,(.bool true),i 181,.ref 212,.none,.ref 213,.ref 214,.ref 215,i 467,i 115,s z2 468]
def VR:Obj:=fO "live_sheets" "Sheets.live_sheets" (cA (HA 10) 11) (s NC 341) (.ref 216)
def WR:Obj:=tO [s uC 473]
def YR:Obj:=cO [s 30801127769404522 470,s 2219455160718099884163236951910740 471,s z2 472,i 118,i 1,i 0,i 0,i 3,.ref 218,(.bool true),i 181,.ref 219,.none,.ref 220,.ref 221,.ref 222,i 474,i 118,s z2 475]
def ZR:Obj:=fO "is_full" "Sheets.is_full" (cA (HA 10) 12) (s NC 341) (.ref 223)
def aS:Obj:=tO [s uC 480]
def bS:Obj:=cO [s 33040738433327721 477,s 2380836116742092014812639552498004 478,s z2 479,i 121,i 1,i 0,i 0,i 3,.ref 225,(.bool true),i 181,.ref 226,.none,.ref 227,.ref 228,.ref 229,i 481,i 121,s z2 482]
def cS:Obj:=fO "hand_at" "Sheets.hand_at" (cA (HA 10) 13) (s NC 341) (.ref 230)
def dS:Obj:=tO [s uC 487,s 1701671029 488,s fI 489,s MG 490]
def eS:Obj:=cO [s 140719112692525297883246709 484,s 10139880695775420249778937948812234134546772 485,s z2 486,i 124,i 1,i 0,i 0,i 3,.ref 232,(.bool true),i 181,.ref 233,.none,.ref 234,.ref 235,.ref 236,i 491,i 124,s z2 492]
def gS:Obj:=fO "told_frames" "Sheets.told_frames" (cA (HA 10) 14) (s NC 341) (.ref 237)
def iS:Obj:=cO [s 549960882328764939071605 494,s 39628857995586799648525390943893217241428 495,s z2 496,i 133,i 1,i 0,i 0,i 3,.ref 239,(.bool true),i 181,.ref 240,.none,.none,.none,.ref 241,i 497,i 133,s z2 498]
def jS:Obj:=fO "told_slots" "Sheets.told_slots" (cA (HA 10) 15) (s NC 341) (.ref 242)
def kS:Obj:=tO [s uC 503]
def lS:Obj:=cO [s 435510800494 500,s 31381860461143034575928584532 501,s z2 502,i 136,i 1,i 0,i 0,i 3,.ref 244,(.bool true),i 181,.ref 245,.none,.ref 246,.ref 247,.ref 248,i 504,i 136,s z2 505]
def mS:Obj:=fO "moved" "Sheets.moved" (cA (HA 10) 16) (s NC 341) (.ref 249)
def nS:Obj:=tO [s uC 510,s NG 511,s 500186509684 512]
def oS:Obj:=cO [s 8458429051817327213 507,s 609494046814468682230731163709106516 508,s z2 509,i 139,i 2,i 0,i 0,i 3,.ref 251,(.bool true),i 181,.ref 252,.none,.ref 253,.ref 254,.ref 255,i 513,i 139,s z2 514]
def pS:Obj:=fO "lying_at" "Sheets.lying_at" (cA (HA 10) 17) (s NC 341) (.ref 256)
def qS:Obj:=cO [s 2148284700994785078626 516,s 154800226862173623962013088011365280084 517,s z2 518,i 143,i 1,i 0,i 0,i 3,.ref 258,(.bool true),i 181,.ref 259,.none,.none,.none,.ref 260,i 519,i 143,s z2 520]
def rS:Obj:=fO "all_spots" "Sheets.all_spots" (cA (HA 10) 18) (s NC 341) (.ref 261)
def sS:Obj:=tO [s uC 525,s 1970302324 526,s MG 527,s fI 528]
def uS:Obj:=cO [s 2166370315886094282869 522,s 156103432757937886773936481808104712532 523,s z2 524,i 147,i 2,i 0,i 0,i 3,.ref 263,(.bool true),i 181,.ref 264,.none,.ref 265,.ref 266,.ref 267,i 529,i 147,s z2 530]
def vS:Obj:=fO "told_slot" "Sheets.told_slot" (cA (HA 10) 19) (s NC 341) (.ref 268)
def wS:Obj:=tO [s uC 535,s NG 536,s 495639426416 537,s FM 538]
def xS:Obj:=cO [s 2128759062150016623209 532,s 153393256304966102397104309401490450772 533,s z2 534,i 156,i 3,i 0,i 0,i 3,.ref 270,(.bool true),i 181,.ref 271,.none,.ref 272,.ref 273,.ref 274,i 539,i 156,s z2 540]
def yS:Obj:=fO "hand_over" "Sheets.hand_over" (cA (HA 10) 20) (s NC 341) (.ref 275)
def zS:Obj:=tO [s uC 545,s NG 546]
def AS:Obj:=cO [s 578295153549658678911598 542,s 41670557408582505496529931128187121985876 543,s z2 544,i 161,i 2,i 0,i 0,i 3,.ref 277,(.bool true),i 181,.ref 278,.none,.ref 279,.ref 280,.ref 281,i 547,i 161,s z2 548]
def BS:Obj:=fO "make_empty" "Sheets.make_empty" (cA (HA 10) 21) (s NC 341) (.ref 282)
def CS:Obj:=tO [s uC 553,s fI 554,s 1970302324 555]
def DS:Obj:=cO [s 2055260603203882086509 550,s 148097134187812227235189991446143199572 551,s z2 552,i 168,i 2,i 0,i 0,i 3,.ref 284,(.bool true),i 181,.ref 285,.none,.ref 286,.ref 287,.ref 288,i 556,i 168,s z2 557]
def ES:Obj:=fO "lose_twin" "Sheets.lose_twin" (cA (HA 10) 22) (s NC 341) (.ref 289)
def FS:Obj:=tO [s uC 562,s TQ 563,s 500035707502 564,s fI 565,s 112581468514660 566]
def GS:Obj:=cO [s 2129475116924502438759 559,s 153444853489214921332424288546578655572 560,s z2 561,i 174,i 3,i 0,i 0,i 3,.ref 291,(.bool true),i 181,.ref 292,.none,.ref 293,.ref 294,.ref 295,i 567,i 174,s z2 568]
def HS:Obj:=fO "frame_for" "Sheets.frame_for" (cA (HA 10) 23) (s NC 341) (.ref 296)
def IS:Obj:=tO [s uC 573,s fI 574,s TQ 575,s MG 576,s 1970302324 577]
def JS:Obj:=cO [s 33062797301872241 570,s 2382425625736609055251908520208724 571,s z2 572,i 182,i 3,i 0,i 0,i 3,.ref 298,(.bool true),i 181,.ref 299,.none,.ref 300,.ref 301,.ref 302,i 578,i 182,s z2 579]
def KS:Obj:=fO "put_out" "Sheets.put_out" (cA (HA 10) 24) (s NC 341) (.ref 303)
def LS:Obj:=tO [s uC 584,s fI 585,s TQ 586,s 525956378214 587,s 1869248629 588]
def MS:Obj:=cO [s 8318262175738129780 581,s 599393958960389321452523230538918228 582,s z2 583,i 194,i 3,i 0,i 0,i 3,.ref 305,(.bool true),i 181,.ref 306,.none,.ref 307,.ref 308,.ref 309,i 589,i 194,s z2 590]
def NS:Obj:=fO "slot_for" "Sheets.slot_for" (cA (HA 10) 25) (s NC 341) (.ref 310)
def OS:Obj:=⟨(.type "tuple"),none,.seq #[(.str "come_back" 592),(.str "frames" 593),(.str "gone_astray" 594),(.str "gone_out" 595),(.str "hand" 596),(.str "size" 597),(.str "slots" 598)] 0, #[]⟩
def QS (P:Params):Obj:=dO 4 [e P z7 350 (s NC 341),e P z8 354 (.int (50) 353),e P DK 364 (.ref 140),e P 452924437351 375 (.ref 147),e P 1818518115 386 (.ref 154),e P 1701671017 396 (.ref 161),e P 123593597216365 405 (.ref 168),e P 488476733378837491839081 414 (.ref 175),e P 36344496227587819637979312233 422 (.ref 182),e P 8458429107500640628 431 (.ref 189),e P 113732352569443 440 (.ref 196),e P 34182044304369268 450 (.ref 203),e P 1701671015 462 (.ref 210),e P 140789800901245672938236525 469 (.ref 217),e P 30801127769404522 476 (.ref 224),e P 33040738433327721 483 (.ref 231),e P 140719112692525297883246709 493 (.ref 238),e P 549960882328764939071605 499 (.ref 243),e P 435510800494 506 (.ref 250),e P 8458429051817327213 515 (.ref 257),e P 2148284700994785078626 521 (.ref 262),e P 2166370315886094282869 531 (.ref 269),e P 2128759062150016623209 541 (.ref 276),e P 578295153549658678911598 549 (.ref 283),e P 2055260603203882086509 558 (.ref 290),e P 2129475116924502438759 569 (.ref 297),e P 33062797301872241 580 (.ref 304),e P 8318262175738129780 591 (.ref 311),e P z9 599 (.ref 312),e P EK 601 (.ref 315),e P dI 603 (.ref 316),e P z1 604 .none]
def SS:Obj:=⟨(.type "type"),none,.cls {name:=(Str.ofString "Sheets"),bases:=[(.type "object")],mro:=[.ref 314,(.type "object")],ns:=313,qualname:=(Str.ofString "Sheets"),hasDict:=true,slotNames:=[],subclasses:=[],abstract:=false,collection:=none,hasDel:=false}, #[none,none,(some (s 128047577983316 343)),(some (s 128047577983316 351)),(some (.builtin "object.__new__")),(some (.bool true))]⟩
def US:Obj:=⟨(.type "getset_descriptor"),none,.fields ⟨[s EK 600,.ref 314,(.builtin "function.__dict__"),(.builtin "function.__dict__#set")]⟩, #[]⟩
def VS:Obj:=⟨(.type "getset_descriptor"),none,.fields ⟨[s dI 602,.ref 314,(.builtin "ExceptionGroup.__weakref__"),.none]⟩, #[]⟩
def WS:Obj:=tO [s 141979911977246466280418656 612,s 119161592376672 613]
def XS:Obj:=cO [s 2018578202597599112544 609,s 2018578202597599112544 610,s z2 611,i 203,i 2,i 0,i 0,i 3,.ref 319,(.bool true),i 181,.ref 320,.none,.ref 321,.ref 322,.ref 323,i 614,i 203,s z2 615]
def YS:Obj:=fO "_law_cell" "_law_cell" (HA 12) (s z0 607) (.ref 324)
def ZS:Obj:=tO [s 479015137796973828140384 620,s 7383200104131489120 621,s 119161592376672 622]
def aT:Obj:=cO [s 1889380072283105815904 617,s 1889380072283105815904 618,s z2 619,i 207,i 2,i 0,i 0,i 3,.ref 326,(.bool true),i 181,.ref 327,.none,.ref 328,.ref 329,.ref 330,i 623,i 207,s z2 624]
def bT:Obj:=fO "_law_like" "_law_like" (HA 13) (s z0 607) (.ref 331)
def cT:Obj:=tO [s GM 629,s UQ 630,s 2166370315886412328288 631,s 140719112692525298201292128 632,s 549960882328765257117024 633,s 119161592376672 634,s 122585337371032916032908640 635,s 31706981096272829574725922144 636,s 2017788388210995522912 637]
def eT:Obj:=cO [s 8464076109328313696 626,s 8464076109328313696 627,s z2 628,i 226,i 3,i 0,i 0,i 3,.ref 333,(.bool true),i 181,.ref 334,.none,.ref 335,.ref 336,.ref 337,i 638,i 226,s z2 639]
def fT:Obj:=fO "_law_out" "_law_out" (HA 14) (s z0 607) (.ref 338)
def iT:Obj:=tO [s 479015137796973828140384 644,s 8678563340116716896 645,s 7383200104131489120 646,s 7381241873922420064 647]
def jT:Obj:=cO [s 1871007083449387478368 641,s 1871007083449387478368 642,s z2 643,i 251,i 2,i 0,i 0,i 3,.ref 340,(.bool true),i 181,.ref 341,.none,.ref 342,.ref 343,.ref 344,i 648,i 251,s z2 649]
def kT:Obj:=fO "_law_told" "_law_told" (HA 15) (s z0 607) (.ref 345)
def lT:Obj:=tO [s GM 654,s 2166371441786319170912 655]
def mT:Obj:=cO [s 33040738751245664 651,s 33040738751245664 652,s z2 653,i 259,i 2,i 0,i 0,i 3,.ref 347,(.bool true),i 181,.ref 348,.none,.ref 349,.ref 350,.ref 351,i 656,i 259,s z2 657]
def pT:Obj:=fO "_law_at" "_law_at" (HA 16) (s z0 607) (.ref 352)
def qT:Obj:=tO [s GM 662,s 2166371441786319170912 663,s 7381241873922420064 664]
def rT:Obj:=cO [s 1889597928417521724768 659,s 1889597928417521724768 660,s z2 661,i 263,i 2,i 0,i 0,i 3,.ref 354,(.bool true),i 181,.ref 355,.none,.ref 356,.ref 357,.ref 358,i 665,i 263,s z2 666]
def tT:Obj:=fO "_law_gone" "_law_gone" (HA 17) (s z0 607) (.ref 359)
def uT:Obj:=cO [s z4 668,s z4 669,s z2 670,i 271,i 1,i 0,i 0,i 3,.ref 361,(.bool true),i 181,.ref 362,.none,.none,.none,.ref 363,i 671,i 271,s z2 672]
def vT:Obj:=fO "_law_folded" "_law_folded" (HA 18) (s z0 607) (.ref 364)
def wT:Obj:=tO [s 140789800901245673238850912 677,s GM 678,s 554405825948688972934496 679,s 139510021644005314150952288 680,s UQ 681,s 483533148109722095873376 682]
def xT:Obj:=cO [s z5 674,s z5 675,s z2 676,i 289,i 5,i 0,i 0,i 3,.ref 366,(.bool true),i 181,.ref 367,.none,.ref 368,.ref 369,.ref 370,i 683,i 289,s z2 684]
def yT:Obj:=fO "_law_fresh" "_law_fresh" (HA 19) (s z0 607) (.ref 371)
def zT:Obj:=tO [s 140789800901245673238850912 689,s GM 690,s 2166370315886412328288 691,s UQ 692,s 126254431232362685063654752 693,s 8462378463375027552 694,s 2055260603204182895968 695]
def AT:Obj:=cO [s 1999481813178129739104 686,s 1999481813178129739104 687,s z2 688,i 294,i 4,i 0,i 0,i 3,.ref 373,(.bool true),i 181,.ref 374,.none,.ref 375,.ref 376,.ref 377,i 696,i 294,s z2 697]
def CT:Obj:=fO "_law_back" "_law_back" (HA 20) (s z0 607) (.ref 378)
def DT:Obj:=cO [s 1888873418424538262880 699,s 1888873418424538262880 700,s z2 701,i 304,i 4,i 0,i 0,i 3,.ref 380,(.bool true),i 181,.ref 381,.none,.none,.none,.ref 382,i 702,i 304,s z2 703]
def ET:Obj:=fO "_law_made" "_law_made" (HA 21) (s z0 607) (.ref 383)
def FT:Obj:=cO [s z6 705,s z6 706,s z2 707,i 322,i 2,i 0,i 0,i 3,.ref 385,(.bool true),i 181,.ref 386,.none,.none,.none,.ref 387,i 708,i 322,s z2 709]
def GT:Obj:=fO "_law_right" "_law_right" (HA 22) (s z0 607) (.ref 388)
def IT:Obj:=cO [s 7889517 711,s 7889517 712,s z2 713,i 332,i 1,i 0,i 0,i 3,.ref 390,(.bool true),i 181,.ref 391,.none,.none,.none,.ref 392,i 714,i 332,s z2 715]
def JT:Obj:=fO "law" "law" (HA 23) (s z0 607) (.ref 393)
noncomputable def Kf:Params->W.Frag:=λP=>(nat_lit 2,o2)::(nat_lit 3,o3 P)::(nat_lit 15,KA)::(nat_lit 17,S0)::(nat_lit 18,KA)::(nat_lit 20,T0)::(nat_lit 21,U0)::(nat_lit 22,V0)::(nat_lit 29,bX)::(nat_lit 30,W0 P)::(nat_lit 31,X0)::(nat_lit 32,Y0)::(nat_lit 35,Z0)::(nat_lit 42,bX)::(nat_lit 43,j1 P)::(nat_lit 44,K1)::(nat_lit 47,KA)::(nat_lit 49,M1)::(nat_lit 50,KA)::(nat_lit 52,N1)::(nat_lit 53,O1)::(nat_lit 61,KA)::(nat_lit 63,P1)::(nat_lit 64,KA)::(nat_lit 66,Q1)::(nat_lit 67,R1)::(nat_lit 68,KA)::(nat_lit 70,T1)::(nat_lit 71,KA)::(nat_lit 73,U1)::(nat_lit 74,V1)::(nat_lit 75,KA)::(nat_lit 78,W1)::(nat_lit 79,X1)::(nat_lit 80,Y1)::(nat_lit 81,Z1 P)::(nat_lit 82,K2)::(nat_lit 83,N2)::(nat_lit 84,O2)::(nat_lit 94,KA)::(nat_lit 96,P2)::(nat_lit 97,KA)::(nat_lit 99,Q2)::(nat_lit 100,VQ)::(nat_lit 101,KA)::(nat_lit 103,WQ)::(nat_lit 104,KA)::(nat_lit 106,XQ)::(nat_lit 107,YQ)::(nat_lit 108,KA)::(nat_lit 110,ZQ)::(nat_lit 111,KA)::(nat_lit 113,aR)::(nat_lit 114,bR)::(nat_lit 115,KA)::(nat_lit 118,cR)::(nat_lit 119,dR)::(nat_lit 120,eR)::(nat_lit 121,fR P)::(nat_lit 122,gR)::(nat_lit 123,iR)::(nat_lit 124,jR)::(nat_lit 134,KA)::(nat_lit 136,kR)::(nat_lit 137,KA)::(nat_lit 139,lR)::(nat_lit 140,mR)::(nat_lit 141,KA)::(nat_lit 143,nR)::(nat_lit 144,KA)::(nat_lit 146,oR)::(nat_lit 147,pR)::(nat_lit 148,KA)::(nat_lit 150,qR)::(nat_lit 151,KA)::(nat_lit 153,rR)::(nat_lit 154,sR)::(nat_lit 155,KA)::(nat_lit 157,tR)::(nat_lit 158,KA)::(nat_lit 160,uR)::(nat_lit 161,vR)::(nat_lit 162,KA)::(nat_lit 164,wR)::(nat_lit 165,KA)::(nat_lit 167,xR)::(nat_lit 168,yR)::(nat_lit 169,KA)::(nat_lit 171,zR)::(nat_lit 172,KA)::(nat_lit 174,AR)::(nat_lit 175,BR)::(nat_lit 176,KA)::(nat_lit 178,DR)::(nat_lit 179,KA)::(nat_lit 181,ER)::(nat_lit 182,FR)::(nat_lit 183,KA)::(nat_lit 185,GR)::(nat_lit 186,KA)::(nat_lit 188,HR)::(nat_lit 189,IR)::(nat_lit 190,KA)::(nat_lit 192,JR)::(nat_lit 193,KA)::(nat_lit 195,KR)::(nat_lit 196,LR)::(nat_lit 197,KA)::(nat_lit 199,MR)::(nat_lit 200,KA)::(nat_lit 202,NR)::(nat_lit 203,OR)::(nat_lit 204,KA)::(nat_lit 206,PR)::(nat_lit 207,KA)::(nat_lit 209,QR)::(nat_lit 210,SR)::(nat_lit 211,KA)::(nat_lit 213,TR)::(nat_lit 214,KA)::(nat_lit 216,UR)::(nat_lit 217,VR)::(nat_lit 218,KA)::(nat_lit 220,WR)::(nat_lit 221,KA)::(nat_lit 223,YR)::(nat_lit 224,ZR)::(nat_lit 225,KA)::(nat_lit 227,aS)::(nat_lit 228,KA)::(nat_lit 230,bS)::(nat_lit 231,cS)::(nat_lit 232,KA)::(nat_lit 234,dS)::(nat_lit 235,KA)::(nat_lit 237,eS)::(nat_lit 238,gS)::(nat_lit 239,KA)::(nat_lit 242,iS)::(nat_lit 243,jS)::(nat_lit 244,KA)::(nat_lit 246,kS)::(nat_lit 247,KA)::(nat_lit 249,lS)::(nat_lit 250,mS)::(nat_lit 251,KA)::(nat_lit 253,nS)::(nat_lit 254,KA)::(nat_lit 256,oS)::(nat_lit 257,pS)::(nat_lit 258,KA)::(nat_lit 261,qS)::(nat_lit 262,rS)::(nat_lit 263,KA)::(nat_lit 265,sS)::(nat_lit 266,KA)::(nat_lit 268,uS)::(nat_lit 269,vS)::(nat_lit 270,KA)::(nat_lit 272,wS)::(nat_lit 273,KA)::(nat_lit 275,xS)::(nat_lit 276,yS)::(nat_lit 277,KA)::(nat_lit 279,zS)::(nat_lit 280,KA)::(nat_lit 282,AS)::(nat_lit 283,BS)::(nat_lit 284,KA)::(nat_lit 286,CS)::(nat_lit 287,KA)::(nat_lit 289,DS)::(nat_lit 290,ES)::(nat_lit 291,KA)::(nat_lit 293,FS)::(nat_lit 294,KA)::(nat_lit 296,GS)::(nat_lit 297,HS)::(nat_lit 298,KA)::(nat_lit 300,IS)::(nat_lit 301,KA)::(nat_lit 303,JS)::(nat_lit 304,KS)::(nat_lit 305,KA)::(nat_lit 307,LS)::(nat_lit 308,KA)::(nat_lit 310,MS)::(nat_lit 311,NS)::(nat_lit 312,OS)::(nat_lit 313,QS P)::(nat_lit 314,SS)::(nat_lit 315,US)::(nat_lit 316,VS)::(nat_lit 319,KA)::(nat_lit 321,WS)::(nat_lit 322,KA)::(nat_lit 324,XS)::(nat_lit 325,YS)::(nat_lit 326,KA)::(nat_lit 328,ZS)::(nat_lit 329,KA)::(nat_lit 331,aT)::(nat_lit 332,bT)::(nat_lit 333,KA)::(nat_lit 335,cT)::(nat_lit 336,KA)::(nat_lit 338,eT)::(nat_lit 339,fT)::(nat_lit 340,KA)::(nat_lit 342,iT)::(nat_lit 343,KA)::(nat_lit 345,jT)::(nat_lit 346,kT)::(nat_lit 347,KA)::(nat_lit 349,lT)::(nat_lit 350,KA)::(nat_lit 352,mT)::(nat_lit 353,pT)::(nat_lit 354,KA)::(nat_lit 356,qT)::(nat_lit 357,KA)::(nat_lit 359,rT)::(nat_lit 360,tT)::(nat_lit 361,KA)::(nat_lit 364,uT)::(nat_lit 365,vT)::(nat_lit 366,KA)::(nat_lit 368,wT)::(nat_lit 369,KA)::(nat_lit 371,xT)::(nat_lit 372,yT)::(nat_lit 373,KA)::(nat_lit 375,zT)::(nat_lit 376,KA)::(nat_lit 378,AT)::(nat_lit 379,CT)::(nat_lit 380,KA)::(nat_lit 383,DT)::(nat_lit 384,ET)::(nat_lit 385,KA)::(nat_lit 388,FT)::(nat_lit 389,GT)::(nat_lit 390,KA)::(nat_lit 393,IT)::(nat_lit 394,JT)::[]
noncomputable def Kc (P:Params):List (Option Obj):=(Kf P).map λp=>some p.2
noncomputable def pG:List Addr:=2::3::15::17::18::20::21::22::29::30::31::32::35::42::43::44::47::49::50::52::53::61::63::64::66::67::68::70::71::73::74::75::78::79::80::81::82::83::84::94::96::97::99::100::101::103::104::106::107::108::110::111::113::114::115::118::119::120::121::122::123::124::134::136::137::139::140::141::143::144::146::147::148::150::151::153::154::155::157::158::160::161::162::164::165::167::168::169::171::172::174::175::176::178::179::181::182::183::185::186::188::189::190::192::193::195::196::197::199::200::202::203::204::206::207::209::210::211::213::214::216::217::218::220::221::223::224::225::227::228::230::231::232::234::235::237::238::239::242::243::244::246::247::249::250::251::253::254::256::257::258::261::262::263::265::266::268::269::270::272::273::275::276::277::279::280::282::283::284::286::287::289::290::291::293::294::296::297::298::300::301::303::304::305::307::308::310::311::312::313::314::315::316::319::321::322::324::325::326::328::329::331::332::333::335::336::338::339::340::342::343::345::346::347::349::350::352::353::354::356::357::359::360::361::364::365::366::368::369::371::372::373::375::376::378::379::380::383::384::385::388::389::390::393::394::[]
noncomputable def _root_.PySem.W.Fast.tw2978598463251682248:Params->W.Frag:=Kf
theorem _root_.PySem.W.Fast.te2978598463251682248:@Eq (Params->W.Frag) Kf _root_.PySem.W.Fast.tw2978598463251682248:=rfl
noncomputable def _root_.PySem.W.Fast.tw178197174607172993:List Addr:=pG
theorem _root_.PySem.W.Fast.te178197174607172993:@Eq (List Addr) pG _root_.PySem.W.Fast.tw178197174607172993:=rfl
theorem HM (P:Params):pG=(Kf P).map (·.1):=by kernel_rfl
theorem IM (P:Params):Kc P=(Kf P).map λp=>some p.2:=rfl
noncomputable def vw:Program:=W.view PySem.Challenge.pw_frameland_k66_folded_sheets [0,2,3,5,7,8,10,12,13,14,15,16,17,18,19,20,21,22,23]
noncomputable def lhs:=LI PySem.Challenge.pw_frameland_k66_folded_sheets (λs=>pG.map s.heap.get?) 5168
noncomputable def rhs (w:World):=some (true,Kc w.params)
noncomputable def lht:=NI PySem.Challenge.pw_frameland_k66_folded_sheets vw [] (λs=>W.xlAt vw [] s&&W.recOk (W.RowW.records (PySem.Challenge.rw_frameland_k66_folded_sheets).row.toRowW) s) 5168
noncomputable def rht:=some (W.openGood vw [])
theorem twins:(λ(_:World->OsState->_) (_:World->_) (_:World->OsState->_) (_:Option _)=>true) lhs rhs lht rht=true:=by k_qdec
theorem U2:∀(w:World) (os:OsState),PySem.W.Fast.tw7128866508377749982 w os=PySem.W.Fast.tw12590348191598281069 w:=by intro w os;kernel_rfl
theorem W2:∀(w:World) (os:OsState),PySem.W.Fast.tw7374437481920917934 w os=PySem.W.Fast.tw10733892774512676622:=by intro w os;kernel_rfl
theorem left:W.LeftO PySem.Challenge.pw_frameland_k66_folded_sheets vw [] (λs=>W.xlAt vw [] s&&W.recOk (W.RowW.records (PySem.Challenge.rw_frameland_k66_folded_sheets).row.toRowW) s) (λs=>pG.map s.heap.get?) (λw=>(Kf w.params).map λp=>some p.2) (5168):=by
 refine CY (by kernel_rfl) (by kernel_rfl) (by intro s;kernel_rfl) (λw os=>?_) λw os=>?_
 ·rw[<-IM];exact (congrFun (congrFun PySem.W.Fast.te7128866508377749982 w) os).trans ((U2 w os).trans (congrFun PySem.W.Fast.te12590348191598281069 w).symm)
 ·exact (congrFun (congrFun PySem.W.Fast.te7374437481920917934 w) os).trans ((W2 w os).trans PySem.W.Fast.te10733892774512676622.symm)
end
end Pf
open PySem PySem.W PyProof.Rows
set_option maxRecDepth 100000 in
set_option maxHeartbeats 0 in
theorem PySem.Challenge.cw_frameland_k66_folded_sheets_holds : PySem.Challenge.rw_frameland_k66_folded_sheets.Holds := by
 w_on;o_law
 refine holds_open (q:=Pf.vw) (loose:=[]) (Xt:=λs=>xlAt Pf.vw [] s&&recOk (RowW.records (PySem.Challenge.rw_frameland_k66_folded_sheets).row.toRowW) s) (XP:=XL Pf.vw []) (Yf:=Hook.obs (kHook Pf.Kf Pf.pG Pf.HM)) (Ya:=Hook.val (kHook Pf.Kf Pf.pG Pf.HM)) (YP:=Hook.says (kHook Pf.Kf Pf.pG Pf.HM)) (N:=(5168)) Pf.left (Hook.of (kHook Pf.Kf Pf.pG Pf.HM)) (Hook.keeps (kHook Pf.Kf Pf.pG Pf.HM)) (λs e=>xl_of s (Bool.and_eq_true_iff.mp e).1) XL.keeps (by rfl) (by rfl) (by rfl) (λs e=>recFacts_of (Bool.and_eq_true_iff.mp e).2) (by rfl) (by first|assumption|decide+kernel) (by decide+kernel) ⟨rfl,rfl,rfl,rfl,rfl,by decide+kernel⟩ ?hw ?hc
 case hw=>w_witness2
 k_fill
 refine Pf.SQ (l:=PySem.Challenge.rw_frameland_k66_folded_sheets) rfl rfl rfl (λw h Y=>PySem.W.kIn_of Y) ?F
 case F=>
  intro w mg h KX G;refine' Pf.mJ KX G ?_ ?_ ?_ ?_ ?_ ?_ ?_ ?_ ?_ ?_ ?_ ?_ ?_ ?_ ?_ ?_ ?_ (.mk ?_ ?_ ?_ ?_) (.mk ?_ ?_ ?_ ?_) (.mk ?_ ?_ ?_ ?_) (.mk ?_ ?_ ?_ ?_) (.mk ?_ ?_ ?_ ?_) (.mk ?_ ?_ ?_ ?_) (.mk ?_ ?_ ?_ ?_) (.mk ?_ ?_ ?_ ?_) (.mk ?_ ?_ ?_ ?_) (.mk ?_ ?_ ?_ ?_) (.mk ?_ ?_ ?_ ?_) (.mk ?_ ?_ ?_ ?_) ⟨?_,?_,?_,?_⟩ ?_ ?_ (.mk ?_ ?_ ?_ ?_ ?_ ?_ ?_) (.mk ?_ ?_ ?_ ?_ ?_) (.mk ?_ ?_ ?_ ?_ ?_) ⟨?_,?_,?_,?_⟩ ?_ ?_ (.mk ?_ ?_ ?_ ?_ ?_ ?_ ?_) (.mk ?_ ?_ ?_ ?_ ?_) (.mk ?_ ?_ ?_ ?_ ?_) (.mk ?_ ?_ ?_ ?_ ?_) ⟨?_,?_,?_,?_⟩ ?_ ?_ ?_ ?_ ?_ ?_ ?_ (.mk ?_ ?_ ?_ ?_ ?_ ?_ ?_) (.mk ?_ ?_ ?_ ?_ ?_) (.mk ?_ ?_ ?_ ?_ ?_) (.mk ?_ ?_ ?_ ?_ ?_) (.mk ?_ ?_ ?_ ?_ ?_) (.mk ?_ ?_ ?_ ?_ ?_) (.mk ?_ ?_ ?_ ?_ ?_) (.mk ?_ ?_ ?_ ?_ ?_) (.mk ?_ ?_ ?_ ?_ ?_) (.mk ?_ ?_ ?_ ?_ ?_) (.mk ?_ ?_ ?_ ?_ ?_) (.mk ?_ ?_ ?_ ?_ ?_) (.mk ?_ ?_ ?_ ?_ ?_) (.mk ?_ ?_ ?_ ?_ ?_) (.mk ?_ ?_ ?_ ?_ ?_) (.mk ?_ ?_ ?_ ?_ ?_) (.mk ?_ ?_ ?_ ?_ ?_) (.mk ?_ ?_ ?_ ?_ ?_) (.mk ?_ ?_ ?_ ?_ ?_) (.mk ?_ ?_ ?_ ?_ ?_) (.mk ?_ ?_ ?_ ?_ ?_) (.mk ?_ ?_ ?_ ?_ ?_) ?g0 (.mk ?_ ?_ ?_ ?_)
  all_goals first|k_is|skip
  (case g0=>k_exc)
